/- Both disks side by side: the program's and the document's. -/
import Derived.Test.YtahjodpaikhhmaaDkR9
import Derived.Test.YtahjodpaikhhmaaDkOps
import Derived.Test.YtahjodpaikhhmaaDkFix
namespace Go.Proofs.Ytahjodpaikhhmaa
open Go Go.RowKit
set_option maxRecDepth 20000

/- the document's Wake, whole -/
theorem rwakeS {w : World} {S : St} {A : Option Addr} {n c : Nat} {L : List RF} (h : RD w S A n L) (ho : Ok S) (Ak : Option Addr) (k ck : Nat) (keep : List Int) (hkl : keep.length = k) (hki : Ints w Ak keep) (hk : k ≤ 1000000000) :
    Calls Try.prog 30 #[rvS S A n c, .slice Ak k ck] w (RSo w A L (woke S keep)) := by
  have hm := h.many
  have hmm := ho.many
  have hn : n ≤ 1000 := by omega
  cases up : S.up with
  | true =>
    have e0 : woke S keep = S := by unfold woke; rw [up]; rfl
    rw [e0]
    have C := rwake_up w (S.room : Int) A n c S.falls S.lit (S.acts : Int) (S.part : Int) (.slice Ak k ck)
    have e1 : rvS S A n c = rv (S.room : Int) A n c false S.falls S.lit (S.acts : Int) (S.part : Int) := by unfold rvS; rw [up]; rfl
    rw [e1]
    refine C.mono ?_
    rintro e w' ⟨rfl, hb⟩
    exact ⟨A, n, c, L, by rw [e1], h.below hb, Nw.same _ _ _ _, hb⟩
  | false =>
    have e0 : woke S keep = ⟨S.room, wkL keep 0 S.fs, true, S.falls, S.lit, S.acts, S.part⟩ := by unfold woke; rw [up]; rfl
    rw [e0]
    have e1 : rvS S A n c = rv (S.room : Int) A n c true S.falls S.lit (S.acts : Int) (S.part : Int) := by unfold rvS; rw [up]; rfl
    rw [e1]
    refine (rwake_down w (S.room : Int) A n c S.falls S.lit (S.acts : Int) (S.part : Int) L h.len h.rs hn (fun r hr => ?_) Ak k ck keep hkl hki hk).mono ?_
    · have hin : r.f ∈ S.fs := by rw [← h.fs]; exact List.mem_map_of_mem hr
      have h1 := (ho.file _ hin).safe
      have h2 := usd_mem hin
      have h3 := ho.used
      have h4 := ho.room
      exact ⟨h1, by omega⟩
    · rintro e w' ⟨A', n', c', rfl, e2, o2, hb⟩
      obtain ⟨A2, c2, e3, f3, _, p3⟩ := o2.form
      injection e3 with e3 e4 e5
      subst e3
      refine ⟨A', n', c', rwkL keep 0 L, rfl, ⟨e2, ⟨f3, fun r hr => ?_⟩, ?_⟩, ⟨fun x e => .inr (p3 x e), fun r hr => ?_⟩, hb⟩
      · obtain ⟨r0, h1, j, rfl⟩ := mem_rwkL hr
        obtain ⟨q1, q2, q3⟩ := h.rs.hdr r0 h1
        refine ⟨(q1.take _).below hb, ?_, q3⟩
        show (List.take _ r0.f.bs).length ≤ r0.c
        rw [List.length_take]; omega
      · rw [fls_rwkL, h.fs]
      · obtain ⟨r0, h1, j, rfl⟩ := mem_rwkL hr
        exact .inl ⟨r0, h1, rfl⟩
/- which blocks the two disks lie in -/
def At (d m : Nat) (V : ByteArray → Value) (l : List Fl) (A : Option Addr) (L : List RF) (x : Nat) : Prop := Fp d m V l x ∨ (∃ a, A = some a ∧ a.block = x) ∨ ∃ r ∈ L, ∃ a, r.A = some a ∧ a.block = x
theorem Rs.keep {w w' : World} {A : Option Addr} {L : List RF} {F : Nat → Prop} (h : Rs w A L) (hk : Keep F w w') (hA : ∀ a, A = some a → ¬ F a.block) (hL : ∀ r ∈ L, ∀ a, r.A = some a → ¬ F a.block) : Rs w' A L :=
  ⟨h.fls.keep hk hA, fun r hr => ⟨(h.hdr r hr).1.keep hk (hL r hr), (h.hdr r hr).2⟩⟩
structure Pl (B : Nat) (w : World) (d m : Nat) (V : ByteArray → Value) (S T : St) (A : Option Addr) (n : Nat) (L : List RF) : Prop where
  db : Db B w d m V T
  rd : RD w S A n L
  hB : B ≤ w.heap.size
  far : (∀ a, A = some a → ¬ Fp d m V T.fs a.block) ∧ ∀ r ∈ L, ∀ a, r.A = some a → ¬ Fp d m V T.fs a.block
  lt : ∀ x, At d m V T.fs A L x → x < w.heap.size
  room : S.room ≤ 900000
section
variable {B : Nat} {w w1 w2 : World} {d m : Nat} {V V' : ByteArray → Value} {S T U : St} {A A' : Option Addr} {n n' : Nat} {L L' : List RF}
theorem Pl.below (h : Pl B w d m V S T A n L) (hb : Below w.heap.size w w1) : Pl B w1 d m V S T A n L :=
  ⟨h.db.below hb, h.rd.below hb, Nat.le_trans h.hB hb.size, h.far, fun x hx => Nat.lt_of_lt_of_le (h.lt x hx) hb.size, h.room⟩
/- the program's disk goes on -/
theorem Pl.first (h : Pl B w d m V S T A n L) (hd : Dk w1 d m V' U) (hk : Keep (Fp d m V T.fs) w w1) (hf : ∀ x, Fp d m V' U.fs x → Fp d m V T.fs x ∨ w.heap.size ≤ x) :
    Pl B w1 d m V' S U A n L ∧ Below B w w1 ∧ ∀ x, At d m V' U.fs A L x → At d m V T.fs A L x ∨ w.heap.size ≤ x := by
  have hs := hk.size
  have nf : ∀ x, x < w.heap.size → ¬ Fp d m V T.fs x → ¬ Fp d m V' U.fs x := fun x hx hn e => by
    rcases hf x e with e | e
    · exact hn e
    · omega
  have ltA : ∀ a, A = some a → a.block < w.heap.size := fun a e => h.lt _ (.inr (.inl ⟨a, e, rfl⟩))
  have ltL : ∀ r ∈ L, ∀ a, r.A = some a → a.block < w.heap.size := fun r hr a e => h.lt _ (.inr (.inr ⟨r, hr, a, e, rfl⟩))
  have at' : ∀ x, At d m V' U.fs A L x → At d m V T.fs A L x ∨ w.heap.size ≤ x := fun x hx => by
    rcases hx with e | e | e
    · rcases hf x e with e | e
      · exact .inl (.inl e)
      · exact .inr e
    · exact .inl (.inr (.inl e))
    · exact .inl (.inr (.inr e))
  refine ⟨⟨h.db.step hd h.hB hf, ⟨h.rd.len, h.rd.rs.keep hk h.far.1 h.far.2, h.rd.fs⟩, Nat.le_trans h.hB hs, ⟨fun a e => nf _ (ltA a e) (h.far.1 a e), fun r hr a e => nf _ (ltL r hr a e) (h.far.2 r hr a e)⟩, fun x hx => ?_, h.room⟩, hk.below h.db.from_ h.hB, at'⟩
  rcases hx with e | e | e
  · exact hd.lt x e
  · obtain ⟨a, e1, rfl⟩ := e
    have := ltA a e1
    omega
  · obtain ⟨r, hr, a, e1, rfl⟩ := e
    have := ltL r hr a e1
    omega
/- then the document's -/
theorem Pl.then_ (h : Pl B w d m V S T A n L) (hr : RD w1 U A' n' L') (hn : Nw w A L w1 A' L') (hb : Below w.heap.size w w1) (hrm : U.room ≤ 900000) :
    Pl B w1 d m V U T A' n' L' ∧ ∀ x, At d m V T.fs A' L' x → At d m V T.fs A L x ∨ w.heap.size ≤ x := by
  have hs := hb.size
  have big : ∀ x, w.heap.size ≤ x → ¬ Fp d m V T.fs x := fun x hx e => by have := h.lt x (.inl e); omega
  have at' : ∀ x, At d m V T.fs A' L' x → At d m V T.fs A L x ∨ (w.heap.size ≤ x ∧ x < w1.heap.size) := fun x hx => by
    rcases hx with e | ⟨a, e, rfl⟩ | ⟨r, hr, a, e, rfl⟩
    · exact .inl (.inl e)
    · rcases hn.a a e with e | e
      · exact .inl (.inr (.inl ⟨a, e, rfl⟩))
      · exact .inr e
    · rcases hn.h r hr with ⟨r0, h0, e0⟩ | e0
      · exact .inl (.inr (.inr ⟨r0, h0, a, e0 ▸ e, rfl⟩))
      · exact .inr (e0 a e)
  refine ⟨⟨h.db.below hb, hr, Nat.le_trans h.hB hs, ⟨fun a e => ?_, fun r hr' a e => ?_⟩, fun x hx => ?_, hrm⟩, fun x hx => (at' x hx).imp id (fun e => e.1)⟩
  · rcases hn.a a e with e | e
    · exact h.far.1 a e
    · exact big _ e.1
  · rcases hn.h r hr' with ⟨r0, h0, e0⟩ | e0
    · exact h.far.2 r0 h0 a (e0 ▸ e)
    · exact big _ (e0 a e).1
  · rcases at' x hx with e | e
    · have := h.lt x e; omega
    · exact e.2
/- stores elsewhere -/
theorem Pl.keep {F : Nat → Prop} (h : Pl B w d m V S T A n L) (hk : Keep F w w1) (hF : ∀ x, At d m V T.fs A L x → ¬ F x) : Pl B w1 d m V S T A n L :=
  ⟨⟨h.db.dk.keep hk (fun k e => hF k (.inl e)), h.db.from_⟩, ⟨h.rd.len, h.rd.rs.keep hk (fun a e => hF _ (.inr (.inl ⟨a, e, rfl⟩))) (fun r hr a e => hF _ (.inr (.inr ⟨r, hr, a, e, rfl⟩))), h.rd.fs⟩, Nat.le_trans h.hB hk.size, h.far, fun x hx => Nat.lt_of_lt_of_le (h.lt x hx) hk.size, h.room⟩
end
/- the room stays -/
theorem syn_room (S : St) (s : ByteArray) : (synS S s).room = S.room := by unfold synS; split; split; exact begun_room S; exact begun_room S; exact begun_room S
theorem del_room (S : St) (s : ByteArray) : (delS S s).room = S.room := by unfold delS; split; split; exact begun_room S; exact begun_room S; exact begun_room S
theorem ren_room (S : St) (s t : ByteArray) : (renS S s t).room = S.room := by unfold renS; split; split; split; exact begun_room S; exact begun_room S; exact begun_room S; exact begun_room S
theorem tru_room (S : St) (s : ByteArray) (k : Int) : (truS S s k).room = S.room := by unfold truS; split; split; split; exact begun_room S; exact begun_room S; exact begun_room S; exact begun_room S
theorem app_room (S : St) (s : ByteArray) (b : List Int) : (appS S s b).room = S.room := by unfold appS; split; split; exact tick_room S; exact tick_room S; rfl
theorem woke_room (S : St) (k : List Int) : (woke S k).room = S.room := by unfold woke; split <;> rfl
end Go.Proofs.Ytahjodpaikhhmaa
