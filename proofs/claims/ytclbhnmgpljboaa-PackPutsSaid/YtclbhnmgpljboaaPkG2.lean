/- The contracts of pack's functions that get: signed numbers and texts. -/
import Derived.Test.YtclbhnmgpljboaaPkG
namespace Go.Proofs.Ytclbhnmgpljboaa
open Go Go.RowKit Pk Rl

theorem g_err (l : List Int) (p : Int) (h : gE l p ≠ 0) : gN l p = 0 ∧ gK l p = 0 := by
  unfold gE at h
  unfold gN gK
  rw [if_neg h]
  refine ⟨?_, rfl⟩
  unfold gv at h ⊢
  split
  · rfl
  · rename_i c
    rw [if_neg c] at h
    exact (gt_err _ _ _ h).1
theorem g_ok (l : List Int) (p : Int) (hr : ∀ c ∈ l, 0 ≤ c ∧ c < 256) (h : gE l p = 0) : 0 ≤ p ∧ p < gK l p ∧ gK l p ≤ (l.length : Int) ∧ (l.drop p.toNat).take (gK l p - p).toNat = wrt (gN l p) ∧ gN l p < 18446744073709551616 := by
  unfold gE at h
  unfold gN gK
  rw [if_pos h]
  unfold gv at h ⊢
  by_cases c : p < 0 ∨ (l.length : Int) < p
  · rw [if_pos c] at h; simp at h
  · rw [if_neg c] at h ⊢
    obtain ⟨q, rfl⟩ : ∃ q : Nat, p = (q : Int) := ⟨p.toNat, by omega⟩
    rw [Int.toNat_natCast] at h ⊢
    have hr2 : ∀ c ∈ l.drop q, 0 ≤ c ∧ c < 256 := fun c hc => hr c (List.mem_of_mem_drop hc)
    rcases e : gt (l.drop q) 0 0 with ⟨n, k, z⟩
    rw [e] at h
    simp only at h ⊢
    subst h
    obtain ⟨m, h1, h2, h3, h4, _⟩ := gt_only _ 0 0 n k hr2 e
    have h5 := gt_room _ 0 0 n k hr2 (by omega) (by simp) e
    rw [List.length_drop] at h3
    refine ⟨by omega, by omega, by omega, ?_, h5⟩
    rw [show ((q : Int) + (k : Int) - (q : Int)).toNat = k - 0 by omega, h4, h1]
    simp
theorem g_lt (l : List Int) (p : Int) (hr : ∀ c ∈ l, 0 ≤ c ∧ c < 256) : gN l p < 18446744073709551616 := by
  by_cases h : gE l p = 0
  · exact (g_ok l p hr h).2.2.2.2
  · rw [(g_err l p h).1]; omega
theorem and64_one (n : Nat) (h : n < 18446744073709551616) : bits .and .u64 (n : Int) 1 = ((n % 2 : Nat) : Int) := by
  rw [← Nat.and_one_is_mod]; exact and64 n 1 h (by omega)

set_option maxHeartbeats 400000 in
theorem getInt_any (a : Option Addr) (len cap : Nat) (l : List Int) (p : Int) (w : World) (hl : l.length = len) (hm : len ≤ 100000) (hc : len ≤ cap) (hb : Byt w a l) :
    Calls Try.prog 20 #[.slice a len cap, .int .i64 p] w fun e w' => e = .returned (.tuple #[.int .i64 (sg (gN l p)), .int .i64 (gK l p), .int .i64 (gE l p : Int)]) ∧ w = w' := by
  have G := Lib.hid (get_any a len cap l p w hl hm hc hb)
  have lt := g_lt l p hb.2
  by_cases c : gE l p = 0
  · rw [c] at G ⊢
    generalize gN l p = n at G lt
    generalize gK l p = k at G
    clear hl hb hc hm
    have an := and64_one n lt
    by_cases c2 : n % 2 = 1
    · have E := Lib.hid (show sg n = -((n / 2 : Nat) : Int) - 1 by unfold sg; rw [if_pos c2])
      rw [c2] at an
      obtain ⟨m, hm⟩ : ∃ m : Nat, m = n / 2 := ⟨_, rfl⟩
      have e1 : (n : Int) / 2 = (m : Int) := by omega
      have nt := not_i64 (m : Int) (by omega) (by omega)
      have hm3 : m < 9223372036854775808 := by omega
      rw [← hm] at E
      rw [E.out]
      clear hm c2
      go_enter Try.func20, Try.ntmps20
      go_wp2_with fail
      refine G.out.mono ?_
      rintro e w' ⟨rfl, rfl⟩
      go_wp2
      go_ret3
      exact ⟨rfl, rfl⟩
    · have E := Lib.hid (show sg n = ((n / 2 : Nat) : Int) by unfold sg; rw [if_neg c2])
      rw [show n % 2 = 0 by omega] at an
      obtain ⟨m, hm⟩ : ∃ m : Nat, m = n / 2 := ⟨_, rfl⟩
      have e1 : (n : Int) / 2 = (m : Int) := by omega
      have hm3 : m < 9223372036854775808 := by omega
      rw [← hm] at E
      rw [E.out]
      clear hm c2
      go_enter Try.func20, Try.ntmps20
      go_wp2_with fail
      refine G.out.mono ?_
      rintro e w' ⟨rfl, rfl⟩
      go_wp2
      go_ret3
      exact ⟨rfl, rfl⟩
  · obtain ⟨z1, z2⟩ := g_err l p c
    rw [z1, z2] at G ⊢
    rw [show sg 0 = 0 from rfl]
    generalize gE l p = z at G c
    have hz : ((z : Int) != 0) = true := by simp; omega
    clear hl hb hc hm c z1 z2 lt
    go_enter Try.func20, Try.ntmps20
    go_wp2_with fail
    refine G.out.mono ?_
    rintro e w' ⟨rfl, rfl⟩
    go_wp2
    go_ret3
    exact ⟨rfl, rfl⟩

/- the text at a place -/
def tE (l : List Int) (p m : Int) : Nat := if gE l p ≠ 0 then gE l p else if max m 0 < (gN l p : Int) then 4 else if (l.length : Int) - gK l p < (gN l p : Int) then 3 else 0
def tK (l : List Int) (p m : Int) : Int := if tE l p m = 0 then gK l p + (gN l p : Int) else 0
def tL (l : List Int) (p m : Int) : List Int := if tE l p m = 0 then (l.drop (gK l p).toNat).take (gN l p) else []
theorem t_bad (l : List Int) (p m : Int) (e : Nat) (h : tE l p m = e) (h0 : e ≠ 0) : tK l p m = 0 ∧ tL l p m = [] := by
  unfold tK tL
  rw [if_neg (by omega), if_neg (by omega)]
  exact ⟨rfl, rfl⟩

theorem cut_len (l : List Int) (k n : Nat) (h : k + n ≤ l.length) : ((l.drop k).take n).length = n := by
  rw [List.length_take, List.length_drop]; omega
theorem byt_cut {w : World} {b off : Nat} {l : List Int} (hb : Byt w (some ⟨b, off, none⟩) l) (k n : Nat) (h : k + n ≤ l.length) : Byt w (some ⟨b, off + k, none⟩) ((l.drop k).take n) := by
  refine ⟨fun i hi => ⟨b, off + k, rfl, ?_⟩, fun c hc => hb.2 c (List.mem_of_mem_drop (List.mem_of_mem_take hc))⟩
  rw [cut_len l k n h] at hi
  obtain ⟨b', off', e, hc⟩ := hb.1 (k + i) (by omega)
  injection e with e
  injection e with e1 e2 _
  subst e1
  subst e2
  rw [Nat.add_assoc, hc]
  congr 2
  simp [List.getD_eq_getElem?_getD, hi]

set_option maxHeartbeats 400000 in
theorem getText_any (a : Option Addr) (len cap : Nat) (l : List Int) (p m : Int) (w : World) (hl : l.length = len) (hm : len ≤ 100000) (hc : len ≤ cap) (h0 : -9223372036854775808 ≤ m) (h1 : m ≤ 9223372036854775807) (hb : Byt w a l) :
    Calls Try.prog 22 #[.slice a len cap, .int .i64 p, .int .i64 m] w fun e w' => e = .returned (.tuple #[.string (strOfNums (tL l p m)), .int .i64 (tK l p m), .int .i64 (tE l p m : Int)]) ∧ w = w' := by
  have G := Lib.hid (get_any a len cap l p w hl hm hc hb)
  have lt := g_lt l p hb.2
  by_cases c : gE l p = 0
  · obtain ⟨o1, o2, o3, _, _⟩ := g_ok l p hb.2 c
    obtain ⟨M, hM⟩ : ∃ M : Nat, max m 0 = (M : Int) := ⟨(max m 0).toNat, by omega⟩
    by_cases c2 : max m 0 < (gN l p : Int)
    · have e : tE l p m = 4 := by unfold tE; rw [if_neg (by omega), if_pos c2]
      obtain ⟨z1, z2⟩ := t_bad l p m 4 e (by omega)
      rw [e, z1, z2]
      rw [c] at G
      clear e z1 z2
      generalize gN l p = n at G lt c2
      generalize gK l p = k at G
      clear hl hb hc
      go_enter Try.func22, Try.ntmps22
      go_wp2_with fail
      refine G.out.mono ?_
      rintro e w' ⟨rfl, rfl⟩
      go_wp2
      go_ret3
      exact ⟨rfl, rfl⟩
    · obtain ⟨K, hK⟩ : ∃ K : Nat, gK l p = (K : Int) := ⟨(gK l p).toNat, by omega⟩
      rw [c, hK] at G
      by_cases c3 : (l.length : Int) - gK l p < (gN l p : Int)
      · have e : tE l p m = 3 := by unfold tE; rw [if_neg (by omega), if_neg c2, if_pos c3]
        obtain ⟨z1, z2⟩ := t_bad l p m 3 e (by omega)
        rw [e, z1, z2]
        clear e z1 z2
        rw [hK, hl] at o3 c3
        generalize gN l p = n at G lt c2 c3
        have d2 : decide (M < n) = false := by simp; omega
        have hKl : K ≤ len := by omega
        clear hl hb hc c2
        go_enter Try.func22, Try.ntmps22
        go_wp2_with fail
        refine G.out.mono ?_
        rintro e w' ⟨rfl, rfl⟩
        go_wp2
        go_ret3
        exact ⟨rfl, rfl⟩
      · have e : tE l p m = 0 := by unfold tE; rw [if_neg (by omega), if_neg c2, if_neg c3]
        rw [show tK l p m = gK l p + (gN l p : Int) by unfold tK; rw [if_pos e], show tL l p m = (l.drop (gK l p).toNat).take (gN l p) by unfold tL; rw [if_pos e], e, hK, Int.toNat_natCast]
        clear e
        rw [hK, hl] at o3 c3
        have HL := Lib.hid (cut_len l K (gN l p) (by omega))
        obtain ⟨b, off, rfl, _⟩ := hb.1 0 (by omega)
        have HT := Lib.hid (byt_cut hb K (gN l p) (by omega))
        generalize (l.drop K).take (gN l p) = t at HT HL
        generalize gN l p = n at G lt c2 c3 HT HL
        have hKl : K + n ≤ len := by omega
        have d2 : decide (M < n) = false := by simp; omega
        by_cases c4 : cap = K
        · have hn : n = 0 := by omega
          subst hn
          obtain rfl : t = [] := List.eq_nil_of_length_eq_zero HL.out
          have st := run_str w (some ⟨b, off, none⟩) 0 0 [] rfl ⟨fun i hi => absurd hi (by simp), by simp⟩
          clear hl hb c2 hK
          subst c4
          go_enter Try.func22, Try.ntmps22
          go_wp2_with fail
          refine G.out.mono ?_
          rintro e w' ⟨rfl, rfl⟩
          go_wp2
          go_ret3
          exact ⟨rfl, rfl⟩
        · have hcq : (cap = K) = False := by simp; omega
          have st := run_str w (some ⟨b, off + K, none⟩) n (cap - K) t HL.out HT.out
          clear hl hb c2 hK c4
          go_enter Try.func22, Try.ntmps22
          go_wp2_with fail
          refine G.out.mono ?_
          rintro e w' ⟨rfl, rfl⟩
          go_wp2
          go_ret3
          exact ⟨rfl, rfl⟩
  · have e : tE l p m = gE l p := by unfold tE; rw [if_pos c]
    obtain ⟨z3, z4⟩ := t_bad l p m _ e c
    obtain ⟨z1, z2⟩ := g_err l p c
    rw [e, z3, z4]
    rw [z1, z2] at G
    generalize gE l p = z at G c
    have hz : ((z : Int) != 0) = true := by simp; omega
    clear hl hb hc hm c z1 z2 lt e z3 z4
    go_enter Try.func22, Try.ntmps22
    go_wp2_with fail
    refine G.out.mono ?_
    rintro e w' ⟨rfl, rfl⟩
    go_wp2
    go_ret3
    exact ⟨rfl, rfl⟩
end Go.Proofs.Ytclbhnmgpljboaa
