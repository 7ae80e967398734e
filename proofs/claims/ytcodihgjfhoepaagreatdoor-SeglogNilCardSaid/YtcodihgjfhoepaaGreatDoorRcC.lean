/- The contracts of rec.find and rec.Get. -/
import Derived.Test.YtcodihgjfhoepaaGreatDoorRcB
namespace Go.Proofs.YtcodihgjfhoepaaGreatDoor
open Go Go.RowKit Crc
set_option maxRecDepth 20000

theorem none_nil {w : World} {l : List Int} (h : Byt w none l) : l = [] := by
  rcases l with _ | ⟨x, l⟩
  · rfl
  · obtain ⟨b, off, h, _⟩ := h.1 0 (by simp)
    cases h

set_option maxHeartbeats 400000 in
theorem find_short (a : Option Addr) (len cap : Nat) (w : World) (h : len < 4) :
    Calls Tryz.prog 128 #[.slice a len cap] w fun e w' => e = .returned (.tuple #[.slice none 0 0, .int .i64 3]) ∧ w = w' := by
  go_enter Tryz.func128, Tryz.ntmps128
  go_wp2
  go_ret2
  exact ⟨rfl, rfl⟩
set_option maxHeartbeats 400000 in
theorem find_long (a : Option Addr) (len cap : Nat) (l : List Int) (w : World) (hl : l.length = len) (h4 : 4 ≤ len) (hc : len ≤ cap) (hb : Byt w a l) (h : 65536 < nm l) :
    Calls Tryz.prog 128 #[.slice a len cap] w fun e w' => e = .returned (.tuple #[.slice none 0 0, .int .i64 4]) ∧ w = w' := by
  have C := Lib.hid (read_any a len cap l w hl h4 hc hb)
  clear hl hb
  generalize nm l = n at C h
  go_enter Tryz.func128, Tryz.ntmps128
  go_wp2_with fail
  refine C.out.mono ?_
  rintro e w' ⟨rfl, rfl⟩
  go_wp2
  go_ret2
  exact ⟨rfl, rfl⟩
set_option maxHeartbeats 400000 in
theorem find_cut (a : Option Addr) (len cap : Nat) (l : List Int) (w : World) (hl : l.length = len) (h4 : 4 ≤ len) (hc : len ≤ cap) (hb : Byt w a l) (h : nm l ≤ 65536) (h8 : len < 8 + nm l) :
    Calls Tryz.prog 128 #[.slice a len cap] w fun e w' => e = .returned (.tuple #[.slice none 0 0, .int .i64 3]) ∧ w = w' := by
  have C := Lib.hid (read_any a len cap l w hl h4 hc hb)
  clear hl hb
  generalize nm l = n at C h h8
  have d4 : decide (len < 4) = false := by simp; omega
  go_enter Tryz.func128, Tryz.ntmps128
  go_wp2_with fail
  refine C.out.mono ?_
  rintro e w' ⟨rfl, rfl⟩
  go_wp2
  go_ret2
  exact ⟨rfl, rfl⟩
set_option maxHeartbeats 1000000 in
theorem find_in (b off len cap : Nat) (l : List Int) (w : World) (hl : l.length = len) (hc : len ≤ cap) (hm : len ≤ 1000000) (hb : Byt w (some ⟨b, off, none⟩) l) (ht : Tab w) (h : nm l ≤ 65536) (h8 : 8 + nm l ≤ len) (z : Nat)
    (hz : z = if nm (l.drop 4) = sm (l.take 4) (fR l) then 0 else 6) :
    Calls Tryz.prog 128 #[.slice (some ⟨b, off, none⟩) len cap] w fun e w' => w = w' ∧ ((z = 6 ∧ e = .returned (.tuple #[.slice none 0 0, .int .i64 6])) ∨ (z = 0 ∧ ∃ A C, e = .returned (.tuple #[.slice A (nm l) C, .int .i64 0]) ∧ Byt w A (fR l) ∧ nm l ≤ C ∧ (A = none → C = 0))) := by
  have C := Lib.hid (read_any (some ⟨b, off, none⟩) len cap l w hl (by omega) hc hb)
  have C2 := Lib.hid (read_any (some ⟨b, off + 4, none⟩) (len - 4) (cap - 4) (l.drop 4) w (by rw [List.length_drop, hl]) (by omega) (by omega) (byt_drop hb 4))
  have hR : (fR l).length = nm l := by simp only [fR, List.length_take, List.length_drop]; omega
  have Y := byt_cut hb 8 (nm l) (by omega)
  have C3 := Lib.hid (fun (A : Option Addr) (k : Nat) (hA : Byt w A (fR l)) => rsum8_any (some ⟨b, off, none⟩) A len cap (nm l) k l (fR l) w hl (by omega) hc hb hR (by omega) hA ht)
  have Y8 := Lib.hid (show Byt w (some ⟨b, off + 8, none⟩) (fR l) from Y)
  have HR := Lib.hid hR
  have d4 : decide (len < 4) = false := by simp; omega
  have hcap4 : (cap = 4) = False := by simp; omega
  clear hb ht Y hR hl
  obtain ⟨s1, S1⟩ : ∃ s, nm (l.drop 4) = s := ⟨_, rfl⟩
  obtain ⟨s2, S2⟩ : ∃ s, sm (l.take 4) (fR l) = s := ⟨_, rfl⟩
  rw [S1] at hz C2
  rw [S2] at hz C3
  clear S1 S2
  generalize fR l = r at *
  generalize nm l = n at *
  have hn8 : (8 : Int) + (n : Int) ≤ (len : Int) := by omega
  have hcn : (8 : Int) + (n : Int) ≤ (cap : Int) := by omega
  have hn0 : (8 : Int) ≤ (8 : Int) + (n : Int) := by omega
  by_cases e : s1 = s2
  · subst e
    rw [if_pos rfl] at hz
    subst hz
    by_cases c8 : cap = 8
    · have hn : n = 0 := by omega
      subst hn
      subst c8
      obtain rfl : r = [] := List.eq_nil_of_length_eq_zero HR.out
      go_enter Tryz.func128, Tryz.ntmps128
      go_wp2_with fail
      refine C.out.mono ?_
      rintro e w' ⟨rfl, rfl⟩
      go_wp2_with fail
      refine C2.out.mono ?_
      rintro e w' ⟨rfl, rfl⟩
      go_wp2_with fail
      refine (C3.out _ _ ⟨fun i hi => absurd hi (by simp), by simp⟩).mono ?_
      rintro e w' ⟨rfl, rfl⟩
      go_wp2
      go_ret2
      exact ⟨rfl, .inr ⟨trivial, _, _, rfl, ⟨fun i hi => absurd hi (by simp), by simp⟩, Nat.zero_le _, fun _ => rfl⟩⟩
    · have hcap8 : (cap = 8) = False := by simp; omega
      go_enter Tryz.func128, Tryz.ntmps128
      go_wp2_with fail
      refine C.out.mono ?_
      rintro e w' ⟨rfl, rfl⟩
      go_wp2_with fail
      refine C2.out.mono ?_
      rintro e w' ⟨rfl, rfl⟩
      go_wp2_with fail
      refine (C3.out _ _ Y8.out).mono ?_
      rintro e w' ⟨rfl, rfl⟩
      go_wp2
      go_ret2
      exact ⟨rfl, .inr ⟨trivial, _, _, rfl, Y8.out, by omega, fun h => by cases h⟩⟩
  · have hne : ((s1 : Int) != (s2 : Int)) = true := by rw [bne_iff_ne]; omega
    rw [if_neg e] at hz
    subst hz
    by_cases c8 : cap = 8
    · have hn : n = 0 := by omega
      subst hn
      subst c8
      obtain rfl : r = [] := List.eq_nil_of_length_eq_zero HR.out
      go_enter Tryz.func128, Tryz.ntmps128
      go_wp2_with fail
      refine C.out.mono ?_
      rintro e w' ⟨rfl, rfl⟩
      go_wp2_with fail
      refine C2.out.mono ?_
      rintro e w' ⟨rfl, rfl⟩
      go_wp2_with fail
      refine (C3.out _ _ ⟨fun i hi => absurd hi (by simp), by simp⟩).mono ?_
      rintro e w' ⟨rfl, rfl⟩
      go_wp2
      go_ret2
      exact ⟨rfl, .inl ⟨trivial, rfl⟩⟩
    · have hcap8 : (cap = 8) = False := by simp; omega
      go_enter Tryz.func128, Tryz.ntmps128
      go_wp2_with fail
      refine C.out.mono ?_
      rintro e w' ⟨rfl, rfl⟩
      go_wp2_with fail
      refine C2.out.mono ?_
      rintro e w' ⟨rfl, rfl⟩
      go_wp2_with fail
      refine (C3.out _ _ Y8.out).mono ?_
      rintro e w' ⟨rfl, rfl⟩
      go_wp2
      go_ret2
      exact ⟨rfl, .inl ⟨trivial, rfl⟩⟩
theorem find_any (a : Option Addr) (len cap : Nat) (l : List Int) (w : World) (hl : l.length = len) (hc : len ≤ cap) (hm : len ≤ 1000000) (hb : Byt w a l) (ht : Tab w) :
    Calls Tryz.prog 128 #[.slice a len cap] w fun e w' => w = w' ∧ ((fE l ≠ 0 ∧ e = .returned (.tuple #[.slice none 0 0, .int .i64 (fE l : Int)])) ∨ (fE l = 0 ∧ ∃ A C, e = .returned (.tuple #[.slice A (nm l) C, .int .i64 0]) ∧ Byt w A (fR l) ∧ nm l ≤ C ∧ (A = none → C = 0))) := by
  by_cases h4 : len < 4
  · have e : fE l = 3 := by unfold fE; rw [if_pos (by omega)]
    refine (find_short a len cap w h4).mono ?_
    rintro e' w' ⟨rfl, rfl⟩
    exact ⟨rfl, .inl ⟨by omega, by rw [e]; rfl⟩⟩
  · by_cases h6 : 65536 < nm l
    · have e : fE l = 4 := by unfold fE; rw [if_neg (by omega), if_pos h6]
      refine (find_long a len cap l w hl (by omega) hc hb h6).mono ?_
      rintro e' w' ⟨rfl, rfl⟩
      exact ⟨rfl, .inl ⟨by omega, by rw [e]; rfl⟩⟩
    · by_cases h8 : len < 8 + nm l
      · have e : fE l = 3 := by unfold fE; rw [if_neg (by omega), if_neg h6, if_pos (by omega)]
        refine (find_cut a len cap l w hl (by omega) hc hb (by omega) h8).mono ?_
        rintro e' w' ⟨rfl, rfl⟩
        exact ⟨rfl, .inl ⟨by omega, by rw [e]; rfl⟩⟩
      · have e : fE l = if nm (l.drop 4) = sm (l.take 4) (fR l) then 0 else 6 := by unfold fE; rw [if_neg (by omega), if_neg h6, if_neg (by omega)]; rfl
        obtain ⟨b, off, rfl, _⟩ := hb.1 0 (by omega)
        refine (find_in b off len cap l w hl hc hm hb ht (by omega) (by omega) (fE l) e).mono ?_
        rintro e' w' ⟨rfl, h | h⟩
        · exact ⟨rfl, .inl ⟨by omega, by rw [h.1]; exact h.2⟩⟩
        · exact ⟨rfl, .inr h⟩
end Go.Proofs.YtcodihgjfhoepaaGreatDoor
