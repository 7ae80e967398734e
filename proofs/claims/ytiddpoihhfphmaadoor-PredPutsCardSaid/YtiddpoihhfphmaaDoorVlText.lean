/- Texts compared byte by byte: the contracts of cmp.Compare at strings and of the document's texts. -/
import Derived.Test.YtiddpoihhfphmaaDoorLbCmp
import Derived.Test.YtiddpoihhfphmaaDoorLbOwn
namespace Go.Proofs.YtiddpoihhfphmaaDoor
open Go Go.RowKit

def lx : List UInt8 → List UInt8 → Int
  | [], [] => 0
  | [], _ :: _ => -1
  | _ :: _, [] => 1
  | a :: x, b :: y => if a < b then -1 else if b < a then 1 else lx x y
theorem lx_less : ∀ x y : List UInt8, Op.bytesLess x y = decide (lx x y = -1)
  | [], [] => by simp [Op.bytesLess, lx]
  | [], _ :: _ => by simp [Op.bytesLess, lx]
  | _ :: _, [] => by simp [Op.bytesLess, lx]
  | a :: x, b :: y => by
    rw [Op.bytesLess, lx, lx_less x y]
    by_cases h : a < b
    · simp [h]
    · by_cases g : b < a
      · have : a ≠ b := fun e => by subst e; exact h g
        simp [h, g, this]
      · have : a = b := by
          apply UInt8.le_antisymm
          · exact UInt8.not_lt.1 g
          · exact UInt8.not_lt.1 h
        simp [this]
theorem lx_self : ∀ x : List UInt8, lx x x = 0
  | [] => rfl
  | a :: x => by rw [lx, if_neg (UInt8.lt_irrefl a), if_neg (UInt8.lt_irrefl a), lx_self x]
theorem lx_zero : ∀ x y : List UInt8, lx x y = 0 → x = y
  | [], [], _ => rfl
  | [], _ :: _, h => by simp [lx] at h
  | _ :: _, [], h => by simp [lx] at h
  | a :: x, b :: y, h => by
    rw [lx] at h
    by_cases h1 : a < b
    · rw [if_pos h1] at h; omega
    · by_cases h2 : b < a
      · rw [if_neg h1, if_pos h2] at h; omega
      · rw [if_neg h1, if_neg h2] at h
        rw [lx_zero x y h, UInt8.le_antisymm (UInt8.not_lt.1 h2) (UInt8.not_lt.1 h1)]
theorem lx_cases : ∀ x y : List UInt8, lx x y = -1 ∨ lx x y = 0 ∨ lx x y = 1
  | [], [] => by simp [lx]
  | [], _ :: _ => by simp [lx]
  | _ :: _, [] => by simp [lx]
  | a :: x, b :: y => by
    rw [lx]
    split
    · simp
    · split
      · simp
      · exact lx_cases x y
theorem lx_anti : ∀ x y : List UInt8, lx x y = -lx y x
  | [], [] => by simp [lx]
  | [], _ :: _ => by simp [lx]
  | _ :: _, [] => by simp [lx]
  | a :: x, b :: y => by
    rw [lx, lx]
    by_cases h1 : a < b
    · have h2 : ¬ b < a := fun h => UInt8.lt_irrefl a (UInt8.lt_trans h1 h)
      rw [if_pos h1, if_neg h2, if_pos h1]
    · by_cases h2 : b < a
      · rw [if_neg h1, if_pos h2, if_pos h2]; rfl
      · rw [if_neg h1, if_neg h2, if_neg h2, if_neg h1, lx_anti x y]
theorem lx_trans : ∀ x y z : List UInt8, lx x y ≤ 0 → lx y z ≤ 0 → lx x z ≤ 0 ∧ (lx x y < 0 → lx x z < 0) ∧ (lx y z < 0 → lx x z < 0)
  | [], [], [], _, _ => by simp [lx]
  | [], [], _ :: _, _, _ => by simp [lx]
  | [], _ :: _, [], _, h => by simp [lx] at h
  | [], _ :: _, _ :: _, _, _ => by simp [lx]
  | _ :: _, [], _, h, _ => by simp [lx] at h
  | _ :: _, _ :: _, [], _, h => by simp [lx] at h
  | a :: x, b :: y, c :: z, h, g => by
    rw [lx] at h g
    rw [lx, lx, lx]
    have ih := lx_trans x y z
    by_cases h1 : a < b
    · by_cases g1 : b < c
      · rw [if_pos (UInt8.lt_trans h1 g1)]; simp
      · rw [if_neg g1] at g
        by_cases g2 : c < b
        · rw [if_pos g2] at g; omega
        · have : b = c := UInt8.le_antisymm (UInt8.not_lt.1 g2) (UInt8.not_lt.1 g1)
          subst this
          rw [if_pos h1]; simp
    · rw [if_neg h1] at h ⊢
      by_cases h2 : b < a
      · rw [if_pos h2] at h; omega
      · rw [if_neg h2] at h
        have : a = b := UInt8.le_antisymm (UInt8.not_lt.1 h2) (UInt8.not_lt.1 h1)
        subst this
        rw [if_neg (UInt8.lt_irrefl a)]
        by_cases g1 : a < c
        · rw [if_pos g1]; simp
        · rw [if_neg g1] at g ⊢
          by_cases g2 : c < a
          · rw [if_pos g2] at g; omega
          · rw [if_neg g2] at g ⊢
            have := ih h g
            refine ⟨this.1, ?_, ?_⟩
            · exact this.2.1
            · rw [if_neg g1, if_neg g2]; exact this.2.2
theorem lx_eq (x y : List UInt8) : (x == y) = decide (lx x y = 0) := by
  rw [Bool.eq_iff_iff, beq_iff_eq, decide_eq_true_iff]
  exact ⟨fun e => by rw [e, lx_self], lx_zero x y⟩
theorem cmpS_any (s t : ByteArray) (w : World) :
    Calls Tryd.prog 74 #[.string s, .string t] w fun e w' => e = .returned (.int .i64 (lx s.toList t.toList)) ∧ w = w' := by
  have h1 := lx_less s.toList t.toList
  have h2 := lx_eq s.toList t.toList
  have hc := Lib.hid (lx_cases s.toList t.toList)
  generalize lx s.toList t.toList = x at h1 h2 hc
  by_cases c1 : x = -1
  · subst c1
    simp only [decide_true] at h1
    clear h2 hc
    go_enter Tryd.func74, Tryd.ntmps74
    go_wp2_with go_in
    go_ret
    exact ⟨rfl, rfl⟩
  · rw [decide_eq_false c1] at h1
    by_cases c2 : x = 1
    · subst c2
      rw [decide_eq_false (by omega)] at h2
      clear hc c1
      go_enter Tryd.func74, Tryd.ntmps74
      go_wp2_with go_in
      go_ret
      exact ⟨rfl, rfl⟩
    · obtain rfl : x = 0 := by have := hc.out; omega
      rw [decide_eq_true rfl] at h2
      clear hc c1 c2
      go_enter Tryd.func74, Tryd.ntmps74
      go_wp2_with go_in
      go_ret
      exact ⟨rfl, rfl⟩
theorem lx_at (s t : ByteArray) (i : Nat) (hs : i < s.size) (ht : i < t.size) :
    lx (s.toList.drop i) (t.toList.drop i) = if s[i] < t[i] then -1 else if t[i] < s[i] then 1 else lx (s.toList.drop (i + 1)) (t.toList.drop (i + 1)) := by
  rw [ByteArray.toList_eq, ByteArray.toList_eq, List.drop_eq_getElem_cons (show i < s.data.toList.length by rw [Array.length_toList]; exact hs), List.drop_eq_getElem_cons (show i < t.data.toList.length by rw [Array.length_toList]; exact ht), lx]
  rfl
theorem lx_end (s t : ByteArray) (i : Nat) (h : s.size ≤ i ∨ t.size ≤ i) (hs : i ≤ s.size) (ht : i ≤ t.size) : lx (s.toList.drop i) (t.toList.drop i) = c3 s.size t.size := by
  rw [ByteArray.toList_eq, ByteArray.toList_eq]
  have l1 : (s.data.toList.drop i).length = s.size - i := by rw [List.length_drop, Array.length_toList]; rfl
  have l2 : (t.data.toList.drop i).length = t.size - i := by rw [List.length_drop, Array.length_toList]; rfl
  generalize s.data.toList.drop i = x at l1
  generalize t.data.toList.drop i = y at l2
  unfold c3
  rcases x with _ | ⟨a, x⟩ <;> rcases y with _ | ⟨b, y⟩
  · rw [lx]; simp at l1 l2; rw [if_neg (by omega), if_neg (by omega)]
  · rw [lx]; simp at l1 l2; rw [if_pos (by omega)]
  · rw [lx]; simp at l1 l2; rw [if_neg (by omega), if_pos (by omega)]
  · simp at l1 l2; omega
theorem run_ix (s : ByteArray) (i p : Nat) (h : i < s.size) (hp : s[i].toNat = p) (w : World) : (Instr.index 9 (.string s) (.int .i64 (i : Int))).run Tryd.prog w = .ok (.int .u8 (p : Int)) w := by
  rw [run_index_string w 9 s .i64 (i : Int) Tryd.underlying9, dif_pos ⟨by omega, by omega⟩]
  subst hp
  rfl
set_option maxHeartbeats 1000000 in
theorem texts_any (s t : ByteArray) (w : World) (hs : s.size ≤ 1000000) (ht : t.size ≤ 1000000) :
    Calls Tryd.prog 43 #[.string s, .string t] w fun e w' => e = .returned (.int .i64 (lx s.toList t.toList)) ∧ Below w.heap.size w w' := by
  obtain ⟨x, hx⟩ : ∃ x, x = lx s.toList t.toList := ⟨_, rfl⟩
  rw [← hx]
  have HX := Lib.hid hx
  clear hx
  go_enter Tryd.func43, Tryd.ntmps43
  go_wp2
  go_loopw [5] (fun v W => ∃ i : Nat, v = .int .i64 i ∧ i ≤ s.size ∧ i ≤ t.size ∧ Hid (x = lx (s.toList.drop i) (t.toList.drop i) ∧ Below w.heap.size w W)) (fun v _ => s.size - (intOf v).toNat)
  case atStart => exact ⟨0, rfl, by omega, by omega, Lib.hid ⟨by simpa using HX.out, Below.refl _ _⟩⟩
  case round =>
    obtain ⟨i, rfl, h1, h2, H⟩ := hrel
    by_cases c : i < s.size ∧ i < t.size
    · obtain ⟨d1, d2⟩ := c
      obtain ⟨p, hp⟩ : ∃ p, s[i].toNat = p := ⟨_, rfl⟩
      obtain ⟨q, hq⟩ : ∃ q, t[i].toNat = q := ⟨_, rfl⟩
      have x1 := run_ix s i p d1 hp
      have x2 := run_ix t i q d2 hq
      obtain ⟨H1, H2⟩ := H.out
      rw [lx_at s t i d1 d2] at H1
      simp only [UInt8.lt_iff_toNat_lt, hp, hq] at H1
      have HB := Lib.hid H2
      clear H H2 hp hq
      by_cases c1 : p < q
      · rw [if_pos c1] at H1
        subst H1
        go_wp2
        go_region
        go_wp2
        go_ret
        exact ⟨rfl, HB.out.drew⟩
      · rw [if_neg c1] at H1
        by_cases c2 : q < p
        · rw [if_pos c2] at H1
          subst H1
          go_wp2
          go_region
          go_wp2
          go_region
          go_wp2
          go_ret
          exact ⟨rfl, HB.out.drew.drew⟩
        · rw [if_neg c2] at H1
          have HR := Lib.hid H1
          clear H1
          go_wp2
          go_region
          go_wp2
          go_region
          go_wp2
          go_round
          case rel => exact ⟨i + 1, by go_num, by omega, by omega, Lib.hid ⟨HR.out, HB.out.drew.drew⟩⟩
          case measure => simp [intOf]; omega
    · have HE := Lib.hid (H.out.1.trans (lx_end s t i (by omega) h1 h2))
      have HB := Lib.hid H.out.2
      clear H
      by_cases c1 : s.size < t.size
      · have e := HE.out
        rw [c3_lt (by omega)] at e
        subst e
        have d1 : decide (i < s.size) = false := by simp; omega
        clear HE
        go_wp2
        go_ret
        exact ⟨rfl, HB.out⟩
      · by_cases c2 : t.size < s.size
        · have e := HE.out
          rw [c3_gt (by omega)] at e
          subst e
          have d1 : decide (i < s.size) = true := by simp; omega
          have d2 : decide (i < t.size) = false := by simp; omega
          clear HE
          go_wp2
          go_ret
          exact ⟨rfl, HB.out⟩
        · have e := HE.out
          rw [show t.size = s.size by omega, c3_eq] at e
          subst e
          have d1 : decide (i < s.size) = false := by simp; omega
          clear HE
          go_wp2
          go_ret
          exact ⟨rfl, HB.out⟩
end Go.Proofs.YtiddpoihhfphmaaDoor
