/- Which signs a text has. -/
import Derived.Test.YtcodihgjfhoepaaGreatDoorSgN
import Derived.Laws.RangeString
namespace Go.Proofs.YtcodihgjfhoepaaGreatDoor
open Go Go.RowKit Crc Pk
set_option maxRecDepth 20000

def isof (s : ByteArray) (a b : Nat) : Bool := !(nl s).isEmpty && (nl s).all fun c => decide (a ≤ c.toNat) && decide (c.toNat ≤ b)
def Good (s : ByteArray) (a b n : Nat) : Prop := ∀ j (h : j < (nl s).length), j < n → a ≤ ((nl s)[j]).toNat ∧ ((nl s)[j]).toNat ≤ b
theorem isof_of {s : ByteArray} {a b : Nat} (h : Good s a b (nl s).length) (hs : nl s ≠ []) : isof s a b = true := by
  unfold isof
  rw [Bool.and_eq_true]
  refine ⟨by simpa using hs, List.all_eq_true.2 fun c hc => ?_⟩
  obtain ⟨j, hj, rfl⟩ := List.getElem_of_mem hc
  have := h j hj hj
  exact (Bool.and_eq_true _ _).mpr ⟨decide_eq_true this.1, decide_eq_true this.2⟩
theorem isof_no {s : ByteArray} {a b j : Nat} (hj : j < (nl s).length) (h : ¬ (a ≤ ((nl s)[j]).toNat ∧ ((nl s)[j]).toNat ≤ b)) : isof s a b = false := by
  unfold isof
  rw [Bool.and_eq_false_iff]
  refine .inr ?_
  rw [List.all_eq_false]
  refine ⟨_, List.getElem_mem hj, ?_⟩
  simp only [Bool.and_eq_true, decide_eq_true_eq]
  exact h
theorem isof_nil {s : ByteArray} {a b : Nat} (h : nl s = []) : isof s a b = false := by unfold isof; rw [h]; rfl
theorem good_all {s : ByteArray} {a b n : Nat} (h : Good s a b n) (hn : (nl s).length ≤ n) : Good s a b (nl s).length := fun j hj _ => h j hj (by omega)
theorem good_next {s : ByteArray} {a b n : Nat} (h : Good s a b n) (hn : n < (nl s).length) (hc : a ≤ ((nl s)[n]).toNat ∧ ((nl s)[n]).toNat ≤ b) : Good s a b (n + 1) := fun j hj h1 => by
  rcases Nat.lt_or_ge j n with e | e
  · exact h j hj e
  · have : j = n := by omega
    subst this
    exact hc
theorem eqe_true {s : ByteArray} (h : nl s = []) : s.toList.isEmpty = true := by
  rw [ByteArray.toList_eq]
  simpa using h
theorem eqe_false {s : ByteArray} (h : nl s ≠ []) : s.toList.isEmpty = false := by
  rw [ByteArray.toList_eq]
  simpa using h
set_option maxHeartbeats 2000000 in
theorem isof_any (s : ByteArray) (a b : Nat) (ha : a < 128) (hb : b < 128) (hs : ∀ c ∈ nl s, c.toNat < 128) (hm : s.size ≤ 140737488355328) (w : World) :
    Calls Tryz.prog 62 #[.string s, .int .i32 (a : Int), .int .i32 (b : Int)] w fun e w' => e = .returned (.bool (isof s a b)) ∧ Below w.heap.size w w' := by
  have hl : s.size = (nl s).length := size_nl s
  have HB : ∀ pos, Below w.heap.size w (w.iter s pos) := fun pos => (Below.refl _ _).alloc (Nat.le_refl _) _
  have HBH := Lib.hid HB
  have HS := Lib.hid hs
  clear HB hs
  go_enter Tryz.func62, Tryz.ntmps62
  go_wp2
  go_loopw [6] (fun v w' => ∃ (pos : Nat), w' = w.iter s pos ∧ v = .bool false ∧ Hid (Good s a b pos)) (fun _ w' => s.size - w'.iterPos w.heap.size)
  case atStart => exact ⟨0, rfl, rfl, fun j hj h => absurd h (by omega)⟩
  case round =>
    obtain ⟨pos, rfl, rfl, H⟩ := hrel
    by_cases hp : pos < s.size
    · have hq : pos < (nl s).length := by omega
      have hv : (s[pos]'hp).toNat = ((nl s)[pos]).toNat := rfl
      have ha1 : (s[pos]'hp).toNat < 128 := by rw [hv]; exact HS.out _ (List.getElem_mem hq)
      have hnx : ∀ ty, (Instr.next (.pointer (some ⟨w.heap.size, 0, none⟩)) true ty).run Tryz.prog (w.iter s pos) = _ := fun ty => run_next_ascii w s pos ty hp ha1
      have N := Lib.hid (fun (h : a ≤ ((nl s)[pos]).toNat ∧ ((nl s)[pos]).toNat ≤ b) => good_next H.out hq h)
      have F := Lib.hid (fun h => isof_no (s := s) (a := a) (b := b) hq h)
      clear H
      rw [hv] at hnx ha1
      obtain ⟨x, hx⟩ : ∃ x, ((nl s)[pos]).toNat = x := ⟨_, rfl⟩
      rw [hx] at hnx N F ha1
      clear hx hv
      by_cases c1 : x < a
      · have c1' : ((x : Int) < (a : Int)) := by omega
        go_wp2
        go_ret
        exact ⟨by rw [F.out (by omega)]; rfl, HBH.out _⟩
      · by_cases c2 : b < x
        · have c1' : ¬ ((x : Int) < (a : Int)) := by omega
          have c2' : ((b : Int) < (x : Int)) := by omega
          go_wp2
          go_ret
          exact ⟨by rw [F.out (by omega)]; rfl, HBH.out _⟩
        · have c1' : ¬ ((x : Int) < (a : Int)) := by omega
          have c2' : ¬ ((b : Int) < (x : Int)) := by omega
          go_wp2
          go_roundw
          case rel => exact ⟨pos + 1, rfl, rfl, N.out ⟨by omega, by omega⟩⟩
          case measure => simp; omega
    · have hnx : ∀ ty, (Instr.next (.pointer (some ⟨w.heap.size, 0, none⟩)) true ty).run Tryz.prog (w.iter s pos) = _ := fun ty => run_next_end w s pos ty hp
      by_cases he : nl s = []
      · have h1 := eqe_true he
        have E := Lib.hid (isof_nil (a := a) (b := b) he)
        clear H
        go_wp2
        go_ret
        exact ⟨by rw [E.out]; rfl, HBH.out _⟩
      · have h1 := eqe_false he
        have E := Lib.hid (isof_of (good_all H.out (by omega)) he)
        clear H
        go_wp2
        go_ret
        exact ⟨by rw [E.out]; rfl, HBH.out _⟩
theorem isname_any (s : ByteArray) (hs : ∀ c ∈ nl s, c.toNat < 128) (hm : s.size ≤ 8) (hz : isof s 97 122 = true) (w : World) :
    Calls Tryz.prog 40 #[.string s] w fun e w' => e = .returned (.bool true) ∧ Below w.heap.size w w' := by
  have C := Lib.hid (fun w => isof_any s 97 122 (by omega) (by omega) hs (by omega) w)
  have h8 : (s.size : Int) ≤ 8 := by omega
  go_enter Tryz.func40, Tryz.ntmps40
  go_wp2_with (go_at_call 62; refine (C.out _).mono ?_; rintro e w' ⟨rfl, hb⟩)
  go_ret
  exact ⟨rfl, hb⟩
end Go.Proofs.YtcodihgjfhoepaaGreatDoor
