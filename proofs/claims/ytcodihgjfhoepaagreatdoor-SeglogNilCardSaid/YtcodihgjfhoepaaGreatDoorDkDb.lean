/- A disk all of whose blocks lie from a place on. -/
import Derived.Test.YtcodihgjfhoepaaGreatDoorDkWake
import Derived.Lib.SmallJoins
namespace Go.Proofs.YtcodihgjfhoepaaGreatDoor
open Go Go.RowKit
set_option maxRecDepth 20000

/- a disk all of whose blocks lie from B on -/
structure Db (B : Nat) (w : World) (d m : Nat) (V : ByteArray → Value) (S : St) : Prop where
  dk : Dk w d m V S
  from_ : ∀ k, Fp d m V S.fs k → B ≤ k
section
variable {B : Nat} {w w' : World} {d m : Nat} {V V' : ByteArray → Value} {S T : St}
theorem Db.below (h : Db B w d m V S) (hb : Below w.heap.size w w') : Db B w' d m V S := ⟨h.dk.below hb, h.from_⟩
theorem Db.step (h : Db B w d m V S) (h' : Dk w' d m V' T) (hB : B ≤ w.heap.size) (hm : ∀ x, Fp d m V' T.fs x → Fp d m V S.fs x ∨ w.heap.size ≤ x) : Db B w' d m V' T :=
  ⟨h', fun k hk => by
    rcases hm k hk with e | e
    · exact h.from_ k e
    · omega⟩
theorem Db.acted {n : Nat} {e : Ending} (h : Db B w d m V S) (hB : B ≤ w.heap.size) (ha : Acted w d m V S n T e w') : e = .returned (.int .i64 (n : Int)) ∧ ∃ V', Db B w' d m V' T ∧ Below B w w' ∧ Keep (Fp d m V S.fs) w w' ∧ ∀ x, Fp d m V' T.fs x → Fp d m V S.fs x ∨ w.heap.size ≤ x := by
  obtain ⟨e1, V', h1, h2, h3⟩ := ha
  exact ⟨e1, V', h.step h1 hB h3, h2.below h.from_ hB, h2, h3⟩
theorem Db.woken {e : Ending} (h : Db B w d m V S) (hB : B ≤ w.heap.size) (ha : Woken w d m V S T e w') : e = .returned (.tuple #[]) ∧ ∃ V', Db B w' d m V' T ∧ Below B w w' ∧ Keep (Fp d m V S.fs) w w' ∧ ∀ x, Fp d m V' T.fs x → Fp d m V S.fs x ∨ w.heap.size ≤ x := by
  obtain ⟨e1, V', h1, h2, h3⟩ := ha
  exact ⟨e1, V', h.step h1 hB h3, h2.below h.from_ hB, h2, h3⟩
theorem new_b (w : World) (room : Nat) (hr : room ≤ 16777216) : Calls Tryz.prog 27 #[.int .i64 (room : Int)] w fun e w' => ∃ d m V, e = .returned (.tuple #[ptr d, .int .i64 0]) ∧ Db w.heap.size w' d m V (St0 room) ∧ Below w.heap.size w w' := by
  refine (new_any w room hr).mono ?_
  rintro e w' ⟨rfl, h1, h2⟩
  exact ⟨_, _, _, rfl, ⟨h1, fun k hk => by
    rcases hk with e | e | ⟨f, hf, _⟩
    · omega
    · omega
    · cases hf⟩, h2⟩
end
/- the room stays -/
theorem syn_room (S : St) (s : ByteArray) : (synS S s).room = S.room := by unfold synS; split; split; exact begun_room S; exact begun_room S; exact begun_room S
theorem del_room (S : St) (s : ByteArray) : (delS S s).room = S.room := by unfold delS; split; split; exact begun_room S; exact begun_room S; exact begun_room S
theorem ren_room (S : St) (s t : ByteArray) : (renS S s t).room = S.room := by unfold renS; split; split; split; exact begun_room S; exact begun_room S; exact begun_room S; exact begun_room S
theorem tru_room (S : St) (s : ByteArray) (k : Int) : (truS S s k).room = S.room := by unfold truS; split; split; split; exact begun_room S; exact begun_room S; exact begun_room S; exact begun_room S
theorem app_room (S : St) (s : ByteArray) (b : List Int) : (appS S s b).room = S.room := by unfold appS; split; split; exact tick_room S; exact tick_room S; rfl
theorem woke_room (S : St) (k : List Int) : (woke S k).room = S.room := by unfold woke; split <;> rfl
end Go.Proofs.YtcodihgjfhoepaaGreatDoor
