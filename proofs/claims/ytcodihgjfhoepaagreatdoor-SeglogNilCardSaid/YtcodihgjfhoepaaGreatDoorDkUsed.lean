/- How many bytes all files have together. -/
import Derived.Test.YtcodihgjfhoepaaGreatDoorDkActs
namespace Go.Proofs.YtcodihgjfhoepaaGreatDoor
open Go Go.RowKit Go.Maps
set_option maxRecDepth 20000

def lsum (left : Lit → Bool) (l : List Fl) : Nat := (l.map fun f => cond (left (kl f.nm)) f.bs.length 0).sum
theorem lsum_all {left : Lit → Bool} {l : List Fl} (h : ∀ f ∈ l, left (kl f.nm) = true) : lsum left l = usd l := by
  induction l with
  | nil => rfl
  | cons y l ih =>
    have h1 := ih (fun f hf => h f (List.mem_cons_of_mem _ hf))
    simp only [lsum, usd, List.map_cons, List.sum_cons] at h1 ⊢
    rw [h y List.mem_cons_self, h1]; rfl
theorem lsum_none {left : Lit → Bool} {l : List Fl} (h : ∀ k, left k = false) : lsum left l = 0 := by
  induction l with
  | nil => rfl
  | cons y l ih =>
    simp only [lsum, List.map_cons, List.sum_cons] at ih ⊢
    rw [h, ih]; rfl
theorem same_kl (a b : ByteArray) : (kl a).sameKey (kl b) = decide (a = b) := by
  by_cases c : a = b
  · subst c
    simp [Lit.sameKey]
  · rw [sameKey_ne (kl_ne (fun e => c e))]
    simp [c]
theorem lsum_other {left : Lit → Bool} {l : List Fl} {k : ByteArray} (h : ∀ f ∈ l, f.nm ≠ k) : lsum (fun z => left z && !z.sameKey (kl k)) l = lsum left l := by
  induction l with
  | nil => rfl
  | cons y l ih =>
    have h1 := ih (fun f hf => h f (List.mem_cons_of_mem _ hf))
    have h2 := h y List.mem_cons_self
    simp only [lsum, List.map_cons, List.sum_cons] at h1 ⊢
    rw [h1, same_kl]
    simp [h2]
theorem lsum_one {left : Lit → Bool} {l : List Fl} (hr : Rise l) {f : Fl} (hf : f ∈ l) (hl : left (kl f.nm) = true) : lsum left l = f.bs.length + lsum (fun z => left z && !z.sameKey (kl f.nm)) l := by
  induction l with
  | nil => cases hf
  | cons y l ih =>
    have h' := List.pairwise_cons.1 hr
    rcases List.mem_cons.1 hf with rfl | hf'
    · have h1 := lsum_other (left := left) (l := l) (k := f.nm) (fun g hg e => nlt_irrefl _ (e ▸ h'.1 g hg))
      simp only [lsum, List.map_cons, List.sum_cons] at h1 ⊢
      rw [h1, hl, same_kl]
      simp
    · have h1 := ih h'.2 hf'
      have hne : y.nm ≠ f.nm := fun e => nlt_irrefl _ (e ▸ h'.1 f hf')
      simp only [lsum, List.map_cons, List.sum_cons] at h1 ⊢
      rw [h1, same_kl]
      simp [hne]
      omega
/- the next file of a range -/
theorem wp_next_files {ops : Array Oper} {rest : List Oper} {o : Oper} {a : Act} {Q : Exit → Act → World → Prop} (w : World) (hg : o.guard = none) (it : Operand) (hop : o.op = Op.next it false)
    (m r n : Nat) (V : ByteArray → Value) (l : List Fl) (D : DataW Value) (left : Lit → Bool) (cnt : Nat) (hit : a.eval it = .pointer (some ⟨r, 0, none⟩))
    (h : w.ranges Tryz.prog 9 rdv m r n D left cnt)
    (ht : ∀ k : ByteArray, k.size ≤ maxLen → Maps.has D (kl k) = (tell V l k).isSome ∧ ∀ v, tell V l k = some v → D.atKey (kl k) (.held zf) = .held v)
    (hs : ∀ z, left z = true → Maps.has D z = true) (hv : ∀ f ∈ l, ∃ A c, V f.nm = .slice A f.bs.length c)
    (hDone : (∀ z, left z = false) → wpList Tryz.prog ops Q rest (a.put o.dst (.tuple #[.bool false])) w)
    (hMore : ∀ (f : Fl) (A : Option Addr) (c : Nat) (w' : World) (cnt' : Nat), f ∈ l → left (kl f.nm) = true → w'.ranges Tryz.prog 9 rdv m r n D (fun z => left z && !z.sameKey (kl f.nm)) cnt' → cnt' < cnt →
      w.grownBy w' (some r) → w'.heap.size = w.heap.size → (Instr.entry (.pointer (some ⟨r, 0, none⟩))).run Tryz.prog w' = .ok (.tuple #[.string f.nm, .agg #[.slice A f.bs.length c, .int .i64 (f.sf : Int)]]) w' →
      wpList Tryz.prog ops Q rest (a.put o.dst (.tuple #[.bool true, .string f.nm, .agg #[.slice A f.bs.length c, .int .i64 (f.sf : Int)]])) w') : wpList Tryz.prog ops Q (o :: rest) a w := by
  refine wpList_plain hg fun K' hK' => ?_
  unfold Oper.wp
  rcases h.next mlaw o.type with ⟨_, hl, hrun⟩ | ⟨key, v, z, y, w', cnt', hkey, hlk, hy, hat, hrun, hrg, hlt, hgr, hsz, hen⟩
  · simp [execOp, hop, hit, hrun, Result.andThen]
    exact hK' _ _ (hDone hl)
  · obtain ⟨x, rfl, rfl, hx⟩ := Maps.keyOf_str Tryz.underlying9 hkey
    have hx' : (⟨x.toArray⟩ : ByteArray).size ≤ maxLen := hx
    obtain ⟨t1, t2⟩ := ht ⟨x.toArray⟩ hx'
    have e : kl ⟨x.toArray⟩ = .string x := rfl
    rw [e] at t1 t2
    rw [hs _ hlk, tell_is] at t1
    obtain ⟨f, hf⟩ := Option.isSome_iff_exists.1 t1.symm
    obtain ⟨f1, f2⟩ := fnd_mem hf
    have t3 := t2 _ (tell_some hf)
    rw [hat] at t3
    have hy' : y.1 = .held v := by
      unfold rdv at hy
      injection hy with hy
      rw [← hy]
    rw [hy'] at t3
    injection t3 with t3
    obtain ⟨A, c, hV⟩ := hv f f1
    rw [← f2, hV] at t3
    subst t3
    have e2 : Value.string ⟨x.toArray⟩ = .string f.nm := by rw [f2]
    have e3 : Lit.string x = kl f.nm := by rw [f2]
    rw [e3] at hlk hrg
    have e4 : Go.Proofs.encStr x = .string f.nm := e2
    rw [e4] at hrun hen
    simp [execOp, hop, hit, hrun, Result.andThen]
    exact hK' _ _ (hMore f A c w' cnt' f1 hlk hrg hlt hgr hsz hen)
theorem Dk.form {w : World} {d m : Nat} {V : ByteArray → Value} {S : St} (h : Dk w d m V S) : ∀ f ∈ S.fs, ∃ A c, V f.nm = .slice A f.bs.length c := fun f hf => by
  obtain ⟨A, c, e, _⟩ := (h.row f hf).form (h.ok.file f hf).bytes
  exact ⟨A, c, e⟩
theorem grown_below {w w' : World} (h : w.grownBy w' none) : Below w.heap.size w w' := ⟨h.os, h.tape, h.output, h.size, fun k hk => h.block k hk (by simp)⟩
theorem grown_new {w w1 w' : World} {r : Nat} (hb : Below w.heap.size w w1) (h : w1.grownBy w' (some r)) (hr : w.heap.size ≤ r) : Below w.heap.size w w' :=
  ⟨h.os.trans hb.os, h.tape.trans hb.tape, h.output.trans hb.output, Nat.le_trans hb.size h.size, fun k hk => (h.block k (Nat.lt_of_lt_of_le hk hb.size) (by simp; omega)).trans (hb.block k hk)⟩
set_option maxHeartbeats 2000000 in
theorem used_any {w : World} {d m : Nat} {V : ByteArray → Value} {S : St} (h : Dk w d m V S) :
    Calls Tryz.prog 133 #[ptr d] w fun e w' => e = .returned (.int .i64 (usd S.fs : Int)) ∧ Below w.heap.size w w' := by
  have c1 := h.c1
  obtain ⟨D, hD⟩ := h.mp
  have HO := Lib.hid hD.own
  have HT := Lib.hid hD.tell
  have HF := Lib.hid h.form
  have HR := Lib.hid h.ok.rise
  have HU := Lib.hid (show usd S.fs ≤ 16777216 from Nat.le_trans h.ok.used h.ok.room)
  have HS0 := Lib.hid (show lsum (Maps.has D) S.fs = usd S.fs from lsum_all (fun f hf => by rw [(hD.tell f.nm (by have := (h.ok.file f hf).n2; unfold maxLen; omega)).1, tell_is, h.ok.rise.fnd hf]; rfl))
  clear h hD
  generalize S.fs = l at *
  go_enter Tryz.func133, Tryz.ntmps133
  go_wp2_with (at_range; refine wpList_range_own _ rfl _ 79 rfl 9 87 mlaw Tryz.underlying79 rdv m l.length D rfl HO.out ?_; intro w0 hrg0 hg0 hs0)
  go_frame
  have RG := Lib.hid (And.intro hrg0 (grown_below hg0))
  clear hrg0 hg0 hs0
  go_loopw [3] (fun s wr => ∃ (acc : Nat) (left : Lit → Bool) (cnt : Nat), s = .int .i64 acc ∧ acc ≤ 16777216 ∧ Hid (wr.ranges Tryz.prog 9 rdv m w.heap.size l.length D left cnt ∧ Below w.heap.size w wr ∧ (∀ z, left z = true → Maps.has D z = true) ∧ acc + lsum left l = usd l)) (fun _ wr => wr.rangeLeft m w.heap.size)
  case atStart => exact ⟨0, _, _, rfl, by omega, RG.out.1, RG.out.2, fun _ e => e, by rw [HS0.out]; omega⟩
  case round =>
    obtain ⟨acc, left, cnt, rfl, hacc, H⟩ := hrel
    clear RG
    go_wp2_with (at_next; refine wp_next_files _ rfl _ rfl m w.heap.size l.length V l D left cnt rfl H.out.1 HT.out H.out.2.2.1 HF.out ?_ ?_)
    · intro hl
      have E := Lib.hid (show acc = usd l by have := H.out.2.2.2; rw [lsum_none hl] at this; omega)
      have B := Lib.hid H.out.2.1
      clear H hl
      go_wp2_with fail
      go_ret
      exact ⟨by rw [E.out]; rfl, B.out⟩
    · intro f A c w1 cnt1 hf hlk hrg1 hlt hg1 hs1 hen
      have e1 := lsum_one HR.out hf hlk
      have e2 := H.out.2.2.2
      have hb1 := grown_new H.out.2.1 hg1 (Nat.le_refl _)
      have E := Lib.hid (show (acc + f.bs.length) + lsum (fun z => left z && !z.sameKey (kl f.nm)) l = usd l by omega)
      have hle : acc + f.bs.length ≤ 16777216 := by have := HU.out; omega
      have R1 := Lib.hid (And.intro hrg1 (And.intro hb1 (And.intro hlt (And.intro H.out.1 H.out.2.2.1))))
      have hen' := hen
      clear e1 e2 hb1 hrg1 hlt hg1 hs1 H hlk hf hen
      generalize f.bs.length = q at *
      generalize f.sf = sf at *
      go_wp2_with fail
      go_roundw
      case rel => exact ⟨acc + q, _, cnt1, by go_num, hle, R1.out.1.alloc _, R1.out.2.1.trans (below_alloc _ _ |>.mono R1.out.2.1.size), fun z hz => R1.out.2.2.2.2 z (by simp at hz; exact hz.1), E.out⟩
      case measure => rw [(R1.out.1.alloc _).left_eq, R1.out.2.2.2.1.left_eq]; exact R1.out.2.2.1
theorem used_nil (w : World) : Calls Tryz.prog 133 #[.pointer none] w fun e w' => e = .returned (.int .i64 0) ∧ w = w' := by
  go_enter Tryz.func133, Tryz.ntmps133
  go_wp2
  go_ret
  exact ⟨rfl, rfl⟩
end Go.Proofs.YtcodihgjfhoepaaGreatDoor
