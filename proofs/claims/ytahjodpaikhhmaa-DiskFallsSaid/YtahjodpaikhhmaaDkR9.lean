/- The document's Wake. -/
import Derived.Test.YtahjodpaikhhmaaDkR8
import Derived.Test.YtahjodpaikhhmaaDkWake
namespace Go.Proofs.Ytahjodpaikhhmaa
open Go Go.RowKit
set_option maxRecDepth 20000

def rw1 (keep : List Int) (i : Nat) (r : RF) : RF := ⟨wk keep i r.f, r.A, r.c⟩
def rwkL (keep : List Int) : Nat → List RF → List RF
  | _, [] => []
  | i, r :: l => rw1 keep i r :: rwkL keep (i + 1) l
theorem fls_rwkL (keep : List Int) (i : Nat) (L : List RF) : fls (rwkL keep i L) = wkL keep i (fls L) := by
  induction L generalizing i with
  | nil => rfl
  | cons r L ih => simp only [fls, List.map_cons, rwkL, wkL] at ih ⊢; rw [ih]; rfl
theorem rwkL_len (keep : List Int) (i : Nat) (L : List RF) : (rwkL keep i L).length = L.length := by
  induction L generalizing i with
  | nil => rfl
  | cons r L ih => simp [rwkL, ih]
theorem rwkL_app (keep : List Int) (i : Nat) (l r : List RF) : rwkL keep i (l ++ r) = rwkL keep i l ++ rwkL keep (i + l.length) r := by
  induction l generalizing i with
  | nil => simp [rwkL]
  | cons f l ih => simp [rwkL, ih, Nat.add_assoc, Nat.add_comm 1]
theorem rwkL_snoc (keep : List Int) (L : List RF) (i : Nat) (hi : i < L.length) : rwkL keep 0 (L.take (i + 1)) = rwkL keep 0 (L.take i) ++ [rw1 keep i (L.getD i rz)] := by
  rw [take_snocR L i hi, rwkL_app, List.length_take, Nat.min_eq_left (by omega)]
  simp [rwkL]
theorem mem_rwkL {keep : List Int} {i : Nat} {L : List RF} {x : RF} (h : x ∈ rwkL keep i L) : ∃ r ∈ L, ∃ j, x = rw1 keep j r := by
  induction L generalizing i with
  | nil => cases h
  | cons r L ih =>
    rcases List.mem_cons.1 h with rfl | h
    · exact ⟨r, List.mem_cons_self, i, rfl⟩
    · obtain ⟨r', h1, j, h2⟩ := ih h
      exact ⟨r', List.mem_cons_of_mem _ h1, j, h2⟩
def Wkn (w : World) (A : Option Addr) (L : List RF) (keep : List Int) (R : Int) (fl : Int) (lt : Bool) (ac pt : Int) (e : Ending) (w' : World) : Prop :=
  ∃ A' n' c', e = .returned (.agg #[.int .i64 R, .slice A' n' c', .bool false, .int .i64 fl, .bool lt, .int .i64 ac, .int .i64 pt]) ∧ (rwkL keep 0 L).length = n' ∧ OwnF w' w.heap.size (.slice A' n' c') (rwkL keep 0 L) ∧ Below w.heap.size w w'
theorem rwake_up (w : World) (R : Int) (A : Option Addr) (n c : Nat) (fl : Int) (lt : Bool) (ac pt : Int) (v : Value) :
    Calls Try.prog 30 #[rv R A n c false fl lt ac pt, v] w fun e w' => e = .returned (rv R A n c false fl lt ac pt) ∧ Below w.heap.size w w' := by
  go_enter Try.func30, Try.ntmps30
  go_wp2
  exact bodyPost_ret (v := rv R A n c false fl lt ac pt) (by simp [results, Try.results30, go_sem]) rfl ⟨rfl, below_go (below_alloc _ _) (below_alloc _ _)⟩
set_option maxHeartbeats 4000000 in
theorem rwake_down (w : World) (R : Int) (A : Option Addr) (n c : Nat) (fl : Int) (lt : Bool) (ac pt : Int) (L : List RF) (hl : L.length = n) (hr : Rs w A L) (hn : n ≤ 1000) (hsf : ∀ r ∈ L, r.f.sf ≤ r.f.bs.length ∧ r.f.bs.length ≤ 16777216)
    (Ak : Option Addr) (k ck : Nat) (keep : List Int) (hkl : keep.length = k) (hki : Ints w Ak keep) (hk : k ≤ 1000000000) :
    Calls Try.prog 30 #[rv R A n c true fl lt ac pt, .slice Ak k ck] w (Wkn w A L keep R fl lt ac pt) := by
  have HL := Lib.hid hl
  have HKL := Lib.hid hkl
  have HKI := Lib.hid hki
  have HR := Lib.hid hr
  have HSF := Lib.hid hsf
  have b0 := below_alloc w (rc R A n c false fl lt ac pt)
  have b1 := below_go b0 (below_alloc (w.alloc (rc R A n c false fl lt ac pt)) rc0)
  have T0 := two_start w R A n c false fl lt ac pt
  have bb := below_alloc ((w.alloc (rc R A n c false fl lt ac pt)).alloc rc0) (.cells #[] 43)
  have T1 := Lib.hid (T0.below bb (by simp))
  have B1 := Lib.hid (below_go b1 bb)
  have O0 := Lib.hid (OwnF.made ((w.alloc (rc R A n c false fl lt ac pt)).alloc rc0))
  simp only [World.size_alloc] at O0
  clear hl hkl hki hr hsf b0 b1 T0 bb
  go_enter Try.func30, Try.ntmps30
  go_wp2_with fail
  go_loopw [18, 5] (fun s t wr => ∃ (i : Nat) (T : Option Addr) (q : Nat), s = .int .i64 i ∧ t = .slice T i q ∧ i ≤ n ∧ Hid (Two wr w.heap.size R A n c false fl lt ac pt ∧ (rwkL keep 0 (L.take i)).length = i ∧ OwnF wr (w.heap.size + 1 + 1) (.slice T i q) (rwkL keep 0 (L.take i)) ∧ Below w.heap.size w wr ∧ w.heap.size + 1 + 1 ≤ wr.heap.size)) (fun s _ _ => n - (intOf s).toNat)
  case atStart => exact ⟨0, _, 0, rfl, rfl, by omega, T1.out, rfl, O0.out, B1.out, by simp⟩
  case round =>
    obtain ⟨i, T, q, rfl, rfl, hi, H⟩ := hrel
    clear T1 B1 O0
    obtain ⟨t2, l2, o2, b2, s2⟩ := H.out
    have f2 := HR.out.fls.below b2
    by_cases ci : i < n
    · obtain ⟨b, off, rfl, x0, x1, x2⟩ := f2 i (by rw [HL.out]; exact ci)
      have y1 : wr.cell? ⟨w.heap.size, 1, none⟩ = some (.slice (some ⟨b, off, none⟩) n c) := by rw [cell_in t2.b0]; rfl
      have ci' : (i : Int) < (n : Int) := by omega
      have ci0 : (0 : Int) ≤ (i : Int) := by omega
      have hbl : b < wr.heap.size := World.block_lt_of_cell? _ _ x0
      have hgl : w.heap.size < wr.heap.size := by omega
      have hil : i < L.length := by rw [HL.out]; exact ci
      have hT := rwkL_snoc keep L i hil
      have hz := HSF.out _ (getD_inR L i hil)
      have hhd := (HR.out.hdr _ (getD_inR L i hil)).2
      have hki := HKI.out.below b2
      obtain ⟨r, hr⟩ : ∃ r, L.getD i rz = r := ⟨_, rfl⟩
      rw [hr] at x0 x1 x2 hT hz hhd
      have HT := Lib.hid hT
      obtain ⟨⟨nm, fb, sf⟩, rA, rC⟩ := r
      simp only at x0 x1 x2 hz hhd
      have hmor := mor_le keep i ⟨nm, fb, sf⟩ hz.1
      have HM := Lib.hid (show mor keep i ⟨nm, fb, sf⟩ = if i < keep.length then (max (keep.getD i 0) 0).toNat % (fb.length - sf + 1) else 0 from rfl)
      obtain ⟨mr, hmr⟩ : ∃ mr, mor keep i ⟨nm, fb, sf⟩ = mr := ⟨_, rfl⟩
      rw [hmr] at hmor HM
      have hlt : (fb.take (sf + mr)).length = sf + mr := by rw [List.length_take]; simp only at hmor; omega
      have hr1 : rw1 keep i ⟨⟨nm, fb, sf⟩, rA, rC⟩ = ⟨⟨nm, fb.take (sf + mr), sf + mr⟩, rA, rC⟩ := by unfold rw1 wk; rw [hmr]
      rw [hr1] at HT
      have HLT := Lib.hid hlt
      simp only at hmor
      obtain ⟨ql, hql⟩ : ∃ ql, fb.length = ql := ⟨_, rfl⟩
      rw [hql] at x1 hz hhd hmor HM
      obtain ⟨hz1, hz2⟩ := hz
      obtain ⟨hhd1, hhd2⟩ := hhd
      have HHD := Lib.hid hhd2
      have R0 := Lib.hid (And.intro t2 (And.intro l2 (And.intro o2 (And.intro b2 s2))))
      clear hT hr H t2 f2 l2 o2 b2 s2 hmr hlt hr1 hql hhd2
      have hk1 : (0 : Int) ≤ (sf : Int) + (mr : Int) := by omega
      have hk2 : (sf : Int) + (mr : Int) ≤ (rC : Int) := by omega
      have hk3 : (sf : Int) + (mr : Int) ≤ (ql : Int) := by omega
      have hcast : ((sf : Int) + (mr : Int)) = ((sf + mr : Nat) : Int) := by omega
      have HC := Lib.hid hcast
      clear hcast
      by_cases ck0 : i < k
      · obtain ⟨bK, oK, rfl, z1⟩ := hki i (by rw [HKL.out]; exact ck0)
        have ck' : (i : Int) < (k : Int) := by omega
        have hbK : bK < wr.heap.size := World.block_lt_of_cell? _ _ z1
        obtain ⟨kv, hkv⟩ : ∃ kv, keep.getD i 0 = kv := ⟨_, rfl⟩
        rw [hkv] at z1 HM
        clear hkv hki
        have hmr2 : mr = (max kv 0).toNat % (ql - sf + 1) := by have := HM.out; rwa [if_pos (by rw [HKL.out]; exact ck0)] at this
        by_cases kp : (0 : Int) < kv
        · have htm : Int.tmod kv ((ql : Int) - (sf : Int) + 1) = (mr : Int) := by
            rw [Int.tmod_eq_emod_of_nonneg (by omega), hmr2]
            have e1 : kv = (((max kv 0).toNat : Nat) : Int) := by omega
            have e2 : (ql : Int) - (sf : Int) + 1 = ((ql - sf + 1 : Nat) : Int) := by omega
            rw [e2, Int.natCast_emod, ← e1]
          have HTM := Lib.hid htm
          clear htm hmr2 HM
          go_wp2_with fail
          have htm := HTM.out
          have hw1 : IntKind.i64.wrap ((ql : Int) - (sf : Int)) = (ql : Int) - (sf : Int) := IntWalk.i64_in _ ⟨by omega, by omega⟩
          have hw2 : IntKind.i64.wrap ((ql : Int) - (sf : Int) + 1) = (ql : Int) - (sf : Int) + 1 := IntWalk.i64_in _ ⟨by omega, by omega⟩
          have hne : ¬ ((ql : Int) - (sf : Int) + 1 = 0) := by omega
          go_region_held3 (fun W => W.cell? ⟨bK, oK + i, none⟩ = some (.int .i64 kv) ∧ W.cell? ⟨wr.heap.size, 1, none⟩ = some (.slice rA ql rC) ∧ W.cell? ⟨wr.heap.size, 2, none⟩ = some (.int .i64 (sf : Int)))
            (first | assumption | exact ⟨by simp [go_sem, *], by simp [go_sem], by simp [go_sem]⟩)
            (fail)
          clear htm hw1 hw2 hne
          have ba : Below wr.heap.size wr ((wr.alloc (.cells #[.string nm, .slice rA (sf + mr) rC, .int .i64 ((sf : Int) + (mr : Int))] 43)).alloc (.cells #[.string nm, .slice rA (sf + mr) rC, .int .i64 ((sf : Int) + (mr : Int))] 43)).drew := (below_go (below_alloc wr _) (below_alloc _ _)).drew
          obtain ⟨t2, l2, o2, b2, s2⟩ := R0.out
          have R2 := Lib.hid (And.intro (t2.below ba (by omega)) (And.intro l2 (And.intro (o2.below ba) (And.intro (below_go b2 ba) (show w.heap.size + 1 + 1 ≤ ((wr.alloc (.cells #[.string nm, .slice rA (sf + mr) rC, .int .i64 ((sf : Int) + (mr : Int))] 43)).alloc (.cells #[.string nm, .slice rA (sf + mr) rC, .int .i64 ((sf : Int) + (mr : Int))] 43)).drew.heap.size by have := ba.size; omega)))))
          clear R0 t2 l2 o2 b2 s2 ba HC HHD
          go_wp2_with (at_builtin; refine wp_appf _ rfl _ _ rfl (w.heap.size + 1 + 1) _ (rwkL keep 0 (L.take i)) rfl R2.out.2.2.1 (wr.heap.size + 1) 0 1 ⟨⟨nm, fb.take (sf + mr), sf + mr⟩, rA, rC⟩ rfl (by simp [go_sem]) (by simp [go_sem, HLT.out]) (by simp [go_sem]) (by rw [R2.out.2.1]; omega) R2.out.2.2.2.2 (i + 1) (by rw [R2.out.2.1]) ?_; intro T' q' w2 hO2 hb2)
          have R3 := Lib.hid (And.intro hO2 hb2)
          clear hO2 hb2
          go_wp2_with fail
          go_roundw
          case rel =>
            obtain ⟨t2, l2, o2, b2, s2⟩ := R2.out
            obtain ⟨h1, h2⟩ := R3.out
            have hz := h2.size
            exact ⟨i + 1, T', q', by go_num, rfl, by omega, t2.below h2 (by omega), by rw [HT.out, List.length_append, l2]; rfl, by rw [HT.out]; exact h1, b2.trans (h2.mono (by omega)), by omega⟩
          case measure => simp [intOf]; omega
        · obtain rfl : mr = 0 := by rw [hmr2, show (max kv 0).toNat = 0 by omega]; exact Nat.zero_mod _
          have hz3 : (sf : Int) ≤ (rC : Int) := by omega
          have hz4 : (0 : Int) ≤ (sf : Int) := by omega
          clear hmr2 HM hk1 hk2 hk3 hmor
          have ba : Below wr.heap.size wr ((wr.alloc (.cells #[.string nm, .slice rA sf rC, .int .i64 (sf : Int)] 43)).alloc (.cells #[.string nm, .slice rA sf rC, .int .i64 (sf : Int)] 43)) := (below_go (below_alloc wr _) (below_alloc _ _))
          obtain ⟨t2, l2, o2, b2, s2⟩ := R0.out
          have R2 := Lib.hid (And.intro (t2.below ba (by omega)) (And.intro l2 (And.intro (o2.below ba) (And.intro (below_go b2 ba) (show w.heap.size + 1 + 1 ≤ ((wr.alloc (.cells #[.string nm, .slice rA sf rC, .int .i64 (sf : Int)] 43)).alloc (.cells #[.string nm, .slice rA sf rC, .int .i64 (sf : Int)] 43)).heap.size by have := ba.size; omega)))))
          clear R0 t2 l2 o2 b2 s2 ba HC HHD
          go_wp2_with (at_builtin; refine wp_appf _ rfl _ _ rfl (w.heap.size + 1 + 1) _ (rwkL keep 0 (L.take i)) rfl R2.out.2.2.1 (wr.heap.size + 1) 0 1 ⟨⟨nm, fb.take (sf + 0), sf + 0⟩, rA, rC⟩ rfl (by simp [go_sem]) (by have e := HLT.out; simp only [Nat.add_zero] at e; simp [go_sem, e]) (by simp [go_sem]) (by rw [R2.out.2.1]; omega) R2.out.2.2.2.2 (i + 1) (by rw [R2.out.2.1]) ?_; intro T' q' w2 hO2 hb2)
          have R3 := Lib.hid (And.intro hO2 hb2)
          clear hO2 hb2
          go_wp2_with fail
          go_roundw
          case rel =>
            obtain ⟨t2, l2, o2, b2, s2⟩ := R2.out
            obtain ⟨h1, h2⟩ := R3.out
            have hz := h2.size
            exact ⟨i + 1, T', q', by go_num, rfl, by omega, t2.below h2 (by omega), by rw [HT.out, List.length_append, l2]; rfl, by rw [HT.out]; exact h1, b2.trans (h2.mono (by omega)), by omega⟩
          case measure => simp [intOf]; omega
      · have ck' : ¬ (i : Int) < (k : Int) := by omega
        obtain rfl : mr = 0 := by have := HM.out; rwa [if_neg (by rw [HKL.out]; exact ck0)] at this
        have hz3 : (sf : Int) ≤ (rC : Int) := by omega
        have hz4 : (0 : Int) ≤ (sf : Int) := by omega
        clear HM hk1 hk2 hk3 hmor hki
        have ba : Below wr.heap.size wr ((wr.alloc (.cells #[.string nm, .slice rA sf rC, .int .i64 (sf : Int)] 43)).alloc (.cells #[.string nm, .slice rA sf rC, .int .i64 (sf : Int)] 43)) := (below_go (below_alloc wr _) (below_alloc _ _))
        obtain ⟨t2, l2, o2, b2, s2⟩ := R0.out
        have R2 := Lib.hid (And.intro (t2.below ba (by omega)) (And.intro l2 (And.intro (o2.below ba) (And.intro (below_go b2 ba) (show w.heap.size + 1 + 1 ≤ ((wr.alloc (.cells #[.string nm, .slice rA sf rC, .int .i64 (sf : Int)] 43)).alloc (.cells #[.string nm, .slice rA sf rC, .int .i64 (sf : Int)] 43)).heap.size by have := ba.size; omega)))))
        clear R0 t2 l2 o2 b2 s2 ba HC HHD
        go_wp2_with (at_builtin; refine wp_appf _ rfl _ _ rfl (w.heap.size + 1 + 1) _ (rwkL keep 0 (L.take i)) rfl R2.out.2.2.1 (wr.heap.size + 1) 0 1 ⟨⟨nm, fb.take (sf + 0), sf + 0⟩, rA, rC⟩ rfl (by simp [go_sem]) (by have e := HLT.out; simp only [Nat.add_zero] at e; simp [go_sem, e]) (by simp [go_sem]) (by rw [R2.out.2.1]; omega) R2.out.2.2.2.2 (i + 1) (by rw [R2.out.2.1]) ?_; intro T' q' w2 hO2 hb2)
        have R3 := Lib.hid (And.intro hO2 hb2)
        clear hO2 hb2
        go_wp2_with fail
        go_roundw
        case rel =>
          obtain ⟨t2, l2, o2, b2, s2⟩ := R2.out
          obtain ⟨h1, h2⟩ := R3.out
          have hz := h2.size
          exact ⟨i + 1, T', q', by go_num, rfl, by omega, t2.below h2 (by omega), by rw [HT.out, List.length_append, l2]; rfl, by rw [HT.out]; exact h1, b2.trans (h2.mono (by omega)), by omega⟩
        case measure => simp [intOf]; omega
    · obtain rfl : i = n := by omega
      have e0 : L.take i = L := List.take_of_length_le (by rw [HL.out]; exact Nat.le_refl _)
      rw [e0] at l2 o2
      have y0 : wr.cell? ⟨w.heap.size, 0, none⟩ = some (.int .i64 R) := by rw [cell_in t2.b0]; rfl
      have y1 : wr.cell? ⟨w.heap.size, 1, none⟩ = some (.slice A i c) := by rw [cell_in t2.b0]; rfl
      have y2 : wr.cell? ⟨w.heap.size, 2, none⟩ = some (.bool false) := by rw [cell_in t2.b0]; rfl
      have y3 : wr.cell? ⟨w.heap.size, 3, none⟩ = some (.int .i64 fl) := by rw [cell_in t2.b0]; rfl
      have y4 : wr.cell? ⟨w.heap.size, 4, none⟩ = some (.bool lt) := by rw [cell_in t2.b0]; rfl
      have y5 : wr.cell? ⟨w.heap.size, 5, none⟩ = some (.int .i64 ac) := by rw [cell_in t2.b0]; rfl
      have y6 : wr.cell? ⟨w.heap.size, 6, none⟩ = some (.int .i64 pt) := by rw [cell_in t2.b0]; rfl
      have z0 : wr.cell? ⟨w.heap.size + 1, 0, none⟩ = some (.int .i64 0) := by rw [cell_in t2.b1]; rfl
      have z1 : wr.cell? ⟨w.heap.size + 1, 1, none⟩ = some (.slice none 0 0) := by rw [cell_in t2.b1]; rfl
      have z2 : wr.cell? ⟨w.heap.size + 1, 2, none⟩ = some (.bool false) := by rw [cell_in t2.b1]; rfl
      have z3 : wr.cell? ⟨w.heap.size + 1, 3, none⟩ = some (.int .i64 0) := by rw [cell_in t2.b1]; rfl
      have z4 : wr.cell? ⟨w.heap.size + 1, 4, none⟩ = some (.bool false) := by rw [cell_in t2.b1]; rfl
      have z5 : wr.cell? ⟨w.heap.size + 1, 5, none⟩ = some (.int .i64 0) := by rw [cell_in t2.b1]; rfl
      have z6 : wr.cell? ⟨w.heap.size + 1, 6, none⟩ = some (.int .i64 0) := by rw [cell_in t2.b1]; rfl
      have g1 : wr.frozen? ⟨w.heap.size, 1, none⟩ = false := free_in t2.b0 1
      have fr0 : wr.frozen? ⟨w.heap.size + 1, 0, none⟩ = false := free_in t2.b1 0
      have fr1 : wr.frozen? ⟨w.heap.size + 1, 1, none⟩ = false := free_in t2.b1 1
      have fr2 : wr.frozen? ⟨w.heap.size + 1, 2, none⟩ = false := free_in t2.b1 2
      have fr3 : wr.frozen? ⟨w.heap.size + 1, 3, none⟩ = false := free_in t2.b1 3
      have fr4 : wr.frozen? ⟨w.heap.size + 1, 4, none⟩ = false := free_in t2.b1 4
      have fr5 : wr.frozen? ⟨w.heap.size + 1, 5, none⟩ = false := free_in t2.b1 5
      have fr6 : wr.frozen? ⟨w.heap.size + 1, 6, none⟩ = false := free_in t2.b1 6
      have R2 := Lib.hid (And.intro l2 (And.intro o2 (And.intro b2 s2)))
      clear H t2 f2 l2 o2 b2 s2 e0 ci HKI HKL HR HSF HL
      go_wp2_with fail
      obtain ⟨l2, o2, b2, s2⟩ := R2.out
      exact bodyPost_ret (v := rv R T i q false fl lt ac pt) (by simp [results, Try.results30, go_sem, *]) rfl ⟨T, i, q, rfl, l2, ((((((((o2.set _ 1 (by omega) _).set _ 0 (by omega) _).set _ 1 (by omega) _).set _ 2 (by omega) _).set _ 3 (by omega) _).set _ 4 (by omega) _).set _ 5 (by omega) _).set _ 6 (by omega) _).base (by omega),
        (((((((b2.setCell (p := ⟨w.heap.size, 1, none⟩) (by show w.heap.size ≤ w.heap.size; omega) _).setCell (p := ⟨w.heap.size + 1, 0, none⟩) (by show w.heap.size ≤ w.heap.size + 1; omega) _).setCell (p := ⟨w.heap.size + 1, 1, none⟩) (by show w.heap.size ≤ w.heap.size + 1; omega) _).setCell (p := ⟨w.heap.size + 1, 2, none⟩) (by show w.heap.size ≤ w.heap.size + 1; omega) _).setCell (p := ⟨w.heap.size + 1, 3, none⟩) (by show w.heap.size ≤ w.heap.size + 1; omega) _).setCell (p := ⟨w.heap.size + 1, 4, none⟩) (by show w.heap.size ≤ w.heap.size + 1; omega) _).setCell (p := ⟨w.heap.size + 1, 5, none⟩) (by show w.heap.size ≤ w.heap.size + 1; omega) _).setCell (p := ⟨w.heap.size + 1, 6, none⟩) (by show w.heap.size ≤ w.heap.size + 1; omega) _⟩
end Go.Proofs.Ytahjodpaikhhmaa
