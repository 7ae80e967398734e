/- The contract of rec.Get. -/
import Derived.Test.YtcodihgjfhoepaaGreatDoorRcC
namespace Go.Proofs.YtcodihgjfhoepaaGreatDoor
open Go Go.RowKit Crc
set_option maxRecDepth 20000

def gE (l : List Int) (p : Int) : Nat := if p < 0 ∨ (l.length : Int) < p then 3 else fE (l.drop p.toNat)
theorem gE_ok {l : List Int} {p : Int} (h : gE l p = 0) : 0 ≤ p ∧ p ≤ l.length ∧ fE (l.drop p.toNat) = 0 := by
  unfold gE at h
  split at h
  · omega
  · exact ⟨by omega, by omega, h⟩

set_option maxHeartbeats 400000 in
theorem get_out (a : Option Addr) (len cap : Nat) (p : Int) (w : World) (h : p < 0 ∨ (len : Int) < p) :
    Calls Tryz.prog 101 #[.slice a len cap, .int .i64 p] w fun e w' => e = .returned (.tuple #[.slice none 0 0, .int .i64 0, .int .i64 3]) ∧ w = w' := by
  by_cases h0 : p < 0
  · clear h
    go_enter Tryz.func101, Tryz.ntmps101
    go_wp2
    go_ret3
    exact ⟨rfl, rfl⟩
  · have d0 : decide (p < 0) = false := by simp; omega
    have h1 : (len : Int) < p := by omega
    clear h h0
    go_enter Tryz.func101, Tryz.ntmps101
    go_wp2
    go_ret3
    exact ⟨rfl, rfl⟩
/- what find answers at the front of what is left -/
def Fnd (w : World) (l : List Int) (e : Ending) (w' : World) : Prop :=
  w = w' ∧ ((fE l ≠ 0 ∧ e = .returned (.tuple #[.slice none 0 0, .int .i64 (fE l : Int)])) ∨ (fE l = 0 ∧ ∃ A C, e = .returned (.tuple #[.slice A (nm l) C, .int .i64 0]) ∧ Byt w A (fR l) ∧ nm l ≤ C ∧ (A = none → C = 0)))
def Got (w : World) (l : List Int) (k : Nat) (e : Ending) (w' : World) : Prop :=
  (fE l ≠ 0 ∧ e = .returned (.tuple #[.slice none 0 0, .int .i64 0, .int .i64 (fE l : Int)]) ∧ w = w') ∨
  (fE l = 0 ∧ ∃ A C, e = .returned (.tuple #[.slice A (nm l) C, .int .i64 ((k + (8 + nm l) : Nat) : Int), .int .i64 0]) ∧ Own w' w.heap.size (.slice A (nm l) C) (fR l) ∧ Below w.heap.size w w')
set_option maxHeartbeats 1000000 in
theorem get_from (a : Option Addr) (len cap : Nat) (l : List Int) (k : Nat) (w : World) (hm : len ≤ 1000000) (hk : k ≤ len) (A : Option Addr) (n c : Nat)
    (hcut : ∀ w, (Instr.slice 29 (.slice a len cap) (some (.int .i64 (k : Int))) none none).run Tryz.prog w = .ok (.slice A n c) w) (F : Calls Tryz.prog 128 #[.slice A n c] w (Fnd w (l.drop k))) :
    Calls Tryz.prog 101 #[.slice a len cap, .int .i64 (k : Int)] w (Got w (l.drop k) k) := by
  go_enter Tryz.func101, Tryz.ntmps101
  go_wp2_with fail
  refine F.mono ?_
  rintro e w' ⟨rfl, h | h⟩
  · obtain ⟨h0, rfl⟩ := h
    have hz : ((fE (l.drop k) : Int) != 0) = true := by rw [bne_iff_ne]; omega
    have R := Lib.hid (show Got w (l.drop k) k (.returned (.tuple #[.slice none 0 0, .int .i64 0, .int .i64 (fE (l.drop k) : Int)])) w from .inl ⟨h0, rfl, rfl⟩)
    clear h0 F
    generalize fE (l.drop k) = z at hz R
    go_wp2
    go_ret3
    exact R.out
  · obtain ⟨h0, A1, C1, rfl, hY, hC, hz⟩ := h
    have hn : nm (l.drop k) ≤ 65536 := (fE_ok h0).2.1
    have HR := Lib.hid (fE_ok h0).2.2.2.2
    have R := Lib.hid (fun (A : Option Addr) (C : Nat) (w' : World) (e : Ending) (he : e = .returned (.tuple #[.slice A (nm (l.drop k)) C, .int .i64 ((k + (8 + nm (l.drop k)) : Nat) : Int), .int .i64 0])) (o : Own w' w.heap.size (.slice A (nm (l.drop k)) C) (fR (l.drop k))) (b : Below w.heap.size w w') => (show Got w (l.drop k) k e w' from .inr ⟨h0, A, C, he, o, b⟩))
    have HY := Lib.hid hY
    clear h0 F hY
    generalize fR (l.drop k) = r at HR R HY
    generalize nm (l.drop k) = m at hC hn HR R
    have B0 := Lib.hid ((Below.refl w.heap.size w).alloc (Nat.le_refl _) (.cells (madeCells #[.int .u8 0] m) 5))
    have mk := run_mk w m m (Nat.le_refl _) (by omega) (m : Int) rfl
    have SZ := Lib.hid (fun w => size_any (some ⟨w.heap.size, 0, none⟩) m m w (by omega))
    have S2 := Lib.hid (fun (W : World) => size_any (some ⟨w.heap.size, 0, none⟩) m m W (by omega))
    go_wp2_with ((with_reducible show wpList _ _ _ (Oper.mk (some 33) _ _ _ _ _ :: _) _ _); refine wp_copy (.tmp 31) (.tmp 32) _ rfl rfl w.heap.size m m A1 C1 r rfl rfl HR.out (heap_alloc_new w _) (HY.out.below B0.out) (Nat.le_refl _) (by omega) w.heap.size w B0.out (Nat.le_refl _) ?_; intro w1 ho1 hb1)
    refine (S2.out _).mono ?_
    rintro e w' ⟨rfl, rfl⟩
    have D := Lib.hid (R.out _ _ _ _ rfl ho1 hb1)
    clear ho1 hb1 mk B0 SZ S2 HY R
    go_wp2
    go_ret3
    exact D.out
theorem elem22 : Tryz.prog.elem 29 = 5 := by kernel_rfl
theorem run_from (a : Option Addr) (len cap k : Nat) (hk : k ≤ len) (w : World) :
    (Instr.slice 29 (.slice a len cap) (some (.int .i64 (k : Int))) none none).run Tryz.prog w = .ok (sliced a k len cap 1) w := by
  have ts : Tryz.t5.size = 1 := by kernel_rfl
  rw [run_slice_l (P := Tryz.prog) (w := w) 29 a len cap (by rw [elem22]; exact Tryz.underlying29) .i64 (k : Int) (by omega) (by omega), elem22]
  simp [sizeOf, go_sem, ts]
theorem get_in (a : Option Addr) (len cap : Nat) (l : List Int) (k : Nat) (w : World) (hl : l.length = len) (hm : len ≤ 1000000) (hc : len ≤ cap) (hk : k ≤ len) (hb : Byt w a l) (ht : Tab w) :
    Calls Tryz.prog 101 #[.slice a len cap, .int .i64 (k : Int)] w (Got w (l.drop k) k) := by
  have hr := run_from a len cap k hk
  have hd : (l.drop k).length = len - k := by rw [List.length_drop, hl]
  rcases a with _ | ⟨b, off, spot⟩
  · have hl0 := none_nil hb
    subst hl0
    simp at hl
    subst hl
    have hk0 : k = 0 := by omega
    subst hk0
    refine get_from none 0 cap [] 0 w hm hk none 0 cap (fun w => ?_) (find_any none 0 cap [] w rfl (by omega) (by omega) hb ht)
    rw [hr w]
    simp [sliced]
  · by_cases ck : cap = k
    · have : l.drop k = [] := List.eq_nil_of_length_eq_zero (by omega)
      refine get_from _ len cap l k w hm hk (some ⟨b, off, spot⟩) 0 0 (fun w => ?_) ?_
      · rw [hr w]
        have e1 : len = k := by omega
        subst e1 ck
        simp [sliced]
      · rw [this]
        exact find_any _ 0 0 [] w rfl (by omega) (by omega) ⟨fun i hi => absurd hi (by simp), by simp⟩ ht
    · by_cases h0 : len = 0
      · have : l = [] := List.eq_nil_of_length_eq_zero (by omega)
        subst this
        have hk0 : k = 0 := by omega
        subst hk0
        subst h0
        refine get_from _ 0 cap [] 0 w hm hk (some ⟨b, off, spot⟩) 0 cap (fun w => ?_) (find_any _ 0 cap [] w rfl (by omega) (by omega) hb ht)
        rw [hr w]
        simp [sliced, ck, Addr.add]
      · obtain ⟨b', off', e, _⟩ := hb.1 0 (by omega)
        injection e with e
        injection e with e1 e2 e3
        subst e1 e2 e3
        refine get_from _ len cap l k w hm hk (some ⟨b, off + k, none⟩) (len - k) (cap - k) (fun w => ?_) (find_any _ (len - k) (cap - k) (l.drop k) w hd (by omega) (by omega) (byt_drop hb k) ht)
        rw [hr w]
        simp [sliced, ck, add_plain]
end Go.Proofs.YtcodihgjfhoepaaGreatDoor
