/- The contract of rec.Put. -/
import Derived.Test.YtcodihgjfhoepaaGreatDoorRcB
import Derived.Deep.RegionLaw
import Derived.BigRegion
namespace Go.Proofs.YtcodihgjfhoepaaGreatDoor
open Go Go.RowKit Crc
set_option maxRecDepth 20000

/- a block that is just these bytes -/
def Ex (w : World) (g : Nat) (L : List Int) : Prop := w.heap[g]? = some (.cells (L.map (Value.int .u8)).toArray 5 (0, 0))
theorem Ex.own {w : World} {g B T : Nat} {L : List Int} (h : Ex w g L) (hB : B ≤ g) (hT : L.length = T) (hm : T ≤ 1000000) : Own w B (.slice (some ⟨g, 0, none⟩) T T) L := by
  refine ⟨by simp, .inr ⟨g, T, _, by rw [hT], hB, h, by omega, by unfold maxLen; omega, by simp [hT], ?_⟩⟩
  rw [List.take_of_length_le (by simp)]
theorem Own.ex {w : World} {g B T : Nat} {L : List Int} (h : Own w B (.slice (some ⟨g, 0, none⟩) T T) L) (hT : L.length = T) : Ex w g L := by
  rcases h.2 with ⟨hv, _⟩ | ⟨g', cap, cur, hv, hg, hh, h1, h2, h3, h4⟩
  · cases hv
  · injection hv with e1 e2 e3
    injection e1 with e1
    injection e1 with e1
    subst e1
    subst e3
    rw [Nat.mul_one] at h3 h4
    rw [List.take_of_length_le (by rw [Array.length_toList]; omega)] at h4
    unfold Ex
    rw [hh, ← h4]
theorem Ex.byt {w : World} {g : Nat} {L : List Int} (h : Ex w g L) (hr : Rng L) : Byt w (some ⟨g, 0, none⟩) L := by
  refine ⟨fun i hi => ⟨g, 0, rfl, ?_⟩, hr⟩
  rw [cell_of_row w g (0 + i) _ 5 (0, 0) h]
  simp [List.getElem?_eq_getElem hi]
theorem wp_cpy {ops : Array Oper} {rest : List Oper} {o : Oper} {a : Act} {Q : Exit → Act → World → Prop} (d s : Operand) (w : World) (hgd : o.guard = none)
    (hop : o.op = .call { callee := .builtin .copy, args := #[d, s], argTypes := #[29, 29] })
    (g off : Nat) (L : List Int) (hg : Ex w g L) (dp : Option Addr) (dn dc : Nat) (hd : a.eval d = .slice dp dn dc) (A : Option Addr) (n cap : Nat) (hs : a.eval s = .slice A n cap) (l : List Int) (hl : l.length = n) (hb : Byt w A l)
    (hp : 0 < n → dp = some ⟨g, off, none⟩) (hn : n ≤ dn) (hfit : off + n ≤ L.length) (B : Nat) (w0 : World) (hb0 : Below B w0 w) (hBg : B ≤ g)
    (h : ∀ w', Ex w' g (L.take off ++ (l ++ L.drop (off + n))) → Below B w0 w' → wpList Tryz.prog ops Q rest (a.put o.dst (goInt n)) w') : wpList Tryz.prog ops Q (o :: rest) a w := by
  refine wpList_copy_splice hgd d s 29 29 hop 5 Tryz.underlying29 size5 dp A dn dc n cap hd hs g off (L.map (Value.int .u8)) 5 hg (l.map (Value.int .u8)) (by rw [List.length_map, hl]; exact (Nat.min_eq_left hn).symm)
    (fun hp2 => ⟨hp (by rw [List.length_map, hl] at hp2; exact hp2), src_of hb (by simpa using hp2)⟩) (by simp [hl]; omega) cells_one B w0 hb0 hBg ?_
  intro w1 hg1 hb1
  rw [List.length_map, hl]
  refine h w1 ?_ hb1
  unfold Ex
  rw [hg1]
  simp [splice, hl, List.map_take, List.map_drop]

set_option maxHeartbeats 400000 in
theorem put_long (a a2 : Option Addr) (n c m c2 : Nat) (w : World) (hm : 65536 < m) :
    Calls Tryz.prog 73 #[.slice a n c, .slice a2 m c2] w fun e w' => e = .returned (.tuple #[.slice none 0 0, .int .i64 4]) ∧ w = w' := by
  go_enter Tryz.func73, Tryz.ntmps73
  go_wp2
  go_ret2
  exact ⟨rfl, rfl⟩
theorem zeros_split (n m : Nat) : List.replicate (n + (8 + m)) (0 : Int) = List.replicate n 0 ++ ([0, 0, 0, 0] ++ ([0, 0, 0, 0] ++ List.replicate m 0)) := by
  rw [List.replicate_append_replicate.symm, List.replicate_append_replicate.symm]; rfl
theorem made_ex (w : World) (n : Nat) : Ex (w.alloc (.cells (madeCells #[.int .u8 0] n) 5)) w.heap.size (List.replicate n 0) := by
  unfold Ex
  rw [heap_alloc_new, ← made_zeros]; simp
set_option maxHeartbeats 2000000 in
theorem put_at (T : Nat) (a a2 : Option Addr) (n c m c2 : Nat) (l r : List Int) (w : World) (hT : T = n + (8 + m)) (hl : l.length = n) (hn : n ≤ 900000) (hb : Byt w a l) (hr : r.length = m) (hm : m ≤ 65536) (hb2 : Byt w a2 r) (ht : Tab w) :
    Calls Tryz.prog 73 #[.slice a n c, .slice a2 m c2] w fun e w' => e = .returned (.tuple #[.slice (some ⟨w.heap.size, 0, none⟩) T T, .int .i64 0]) ∧ Ex w' w.heap.size (l ++ fr r) ∧ Below w.heap.size w w' := by
  have HL := Lib.hid hl
  have HB := Lib.hid hb
  have HR := Lib.hid hr
  have HB2 := Lib.hid hb2
  have HT := Lib.hid ht
  clear hl hb hr hb2 ht
  have SZ := Lib.hid (size_any a2 m c2 w (by omega))
  have mk : (Instr.makeSlice 29 (.int .i64 ((n : Int) + (8 + (m : Int)))) (.int .i64 ((n : Int) + (8 + (m : Int))))).run Tryz.prog w = .ok (.slice (some ⟨w.heap.size, 0, none⟩) T T) (w.alloc (.cells (madeCells #[.int .u8 0] T) 5)) := by
    rw [show (n : Int) + (8 + (m : Int)) = (T : Int) by omega]
    exact run_mk w T T (Nat.le_refl _) (by omega) (T : Int) rfl
  have B0 := Lib.hid ((Below.refl w.heap.size w).alloc (Nat.le_refl _) (.cells (madeCells #[.int .u8 0] T) 5))
  have E0 := Lib.hid (made_ex w T)
  have T8 : (T = n) = False := by simp; omega
  have nT : (n : Int) ≤ (T : Int) := by omega
  obtain ⟨K, hK⟩ : ∃ K, K = 8 + m := ⟨_, rfl⟩
  have eK : T - n = K := by omega
  have k4 : (4 : Int) ≤ (K : Int) := by omega
  have k8 : (8 : Int) ≤ (K : Int) := by omega
  have K4 : (K = 4) = False := by simp; omega
  have HTT := Lib.hid (And.intro hT hK)
  clear hT hK
  go_enter Tryz.func73, Tryz.ntmps73
  go_wp2_with fail
  refine SZ.out.mono ?_
  rintro e w' ⟨rfl, rfl⟩
  go_wp2_with ((with_reducible show wpList _ _ _ (Oper.mk (some 19) _ _ _ _ _ :: _) _ _); refine wp_cpy (.tmp 17) (.tmp 18) _ rfl rfl w.heap.size 0 _ E0.out _ T T rfl a n c rfl l HL.out (HB.out.below B0.out) (fun _ => rfl) (by omega) (by rw [List.length_replicate]; omega) w.heap.size w B0.out (Nat.le_refl _) ?_; intro w1 hE1 hb1)
  have R1 := Lib.hid (show Ex w1 w.heap.size (l ++ ([0, 0, 0, 0] ++ ([0, 0, 0, 0] ++ List.replicate m 0))) by
    rw [HTT.out.1, zeros_split] at hE1
    rw [List.take_zero, List.nil_append, Nat.zero_add, List.drop_left' (by simp)] at hE1
    exact hE1)
  have B1 := Lib.hid hb1
  have LN := Lib.hid (show (l ++ ([0, 0, 0, 0] ++ ([0, 0, 0, 0] ++ List.replicate m 0))).length = T by have := HTT.out; simp [HL.out]; omega)
  have W := Lib.hid (write_any w.heap.size w.heap.size n K K m l ([0, 0, 0, 0] ++ List.replicate m 0) 0 0 0 0 w1 T T (R1.out.own (Nat.le_refl _) LN.out (by have := HTT.out; omega)) HL.out LN.out (by omega) (by omega) (Nat.le_refl _))
  clear hE1 hb1 mk E0
  refine W.out.mono ?_
  rintro e w2 ⟨rfl, ho2, hb2⟩
  have LN2 := Lib.hid (show (l ++ (by4 m ++ ([0, 0, 0, 0] ++ List.replicate m 0))).length = T by have := HTT.out; simp [HL.out, by4_len]; omega)
  have X2 := Lib.hid (ho2.ex LN2.out)
  have B2 := Lib.hid (B1.out.trans hb2)
  have HRr : Rng r := HB2.out.2
  have HRl : Rng l := HB.out.2
  have rz : Rng ([0, 0, 0, 0] ++ List.replicate m 0) := Rng.app (by intro c hc; simp at hc; omega) (by intro c hc; rw [List.mem_replicate] at hc; omega)
  have Y2 := Lib.hid (byt_drop (X2.out.byt (HRl.app ((by4_rng m).app rz))) n)
  rw [List.drop_left' HL.out, Nat.zero_add] at Y2
  have e4 : (by4 m ++ ([0, 0, 0, 0] ++ List.replicate m 0)).take 4 = by4 m := List.take_left' (by4_len m)
  have CS := Lib.hid (fun (W : World) (hW : Below w2.heap.size w2 W) => rsum8_any (some ⟨w.heap.size, n, none⟩) a2 K K m c2 _ r W (by have := HTT.out; simp [by4_len]; omega) (by omega) (Nat.le_refl _) (Y2.out.below hW) HR.out (by omega) ((HB2.out.below B2.out).below hW) ((HT.out.below B2.out HT.out.lt).below hW (HT.out.below B2.out HT.out.lt).lt))
  rw [e4] at CS
  have LN3 := Lib.hid (show ((l ++ by4 m) ++ ([0, 0, 0, 0] ++ List.replicate m 0)).length = T by rw [List.append_assoc]; exact LN2.out)
  have CW := Lib.hid (fun (W : World) (hW : Below w2.heap.size w2 W) => write_any w.heap.size w.heap.size (n + 4) (K - 4) (K - 4) (sm (by4 m) r) (l ++ by4 m) (List.replicate m 0) 0 0 0 0 W T T (by rw [List.append_assoc]; exact ho2.below hW) (by simp [HL.out, by4_len]) LN3.out (by have := HTT.out; omega) (sm_lt _ _) (Nat.le_refl _))
  have BX := Lib.hid (show w.heap.size < w2.heap.size from World.block_lt_of_cell? _ _ (ho2.cell LN2.out 0 (by have := HTT.out; omega)))
  clear ho2 hb2 e4 HRr HRl rz W
  obtain ⟨s, hs⟩ : ∃ s, sm (by4 m) r = s := ⟨_, rfl⟩
  rw [hs] at CS CW
  have HS := Lib.hid hs
  clear hs
  go_wp2_with fail
  go_region_law (first
    | (go_simp; go_at_call 112; refine (CS.out _ (below_drewN _ _ _)).mono ?_; rintro e w' ⟨rfl, rfl⟩)
    | (go_simp; go_at_call 111; refine (CW.out _ (below_drewN _ _ _)).mono ?_; rintro e w3 ⟨rfl, ho3, hb3⟩))
  all_goals
    have X3 := Lib.hid (show Ex w3 w.heap.size ((l ++ by4 m) ++ (by4 s ++ List.replicate m 0)) from ho3.ex (by have := HTT.out; simp [HL.out, by4_len]; omega))
    have B3 := Lib.hid (B2.out.trans ((below_drewN _ _ _).trans hb3))
    have Y3 := Lib.hid (HB2.out.below B3.out)
    clear ho3 hb3 CS CW B1 B2 X2 Y2 LN LN2 LN3 R1
    by_cases m0 : m = 0
    · have K8 : K = 8 := by have := HTT.out; omega
      subst m0
      have HK := HTT.out.1
      have HK2 := HTT.out.2
      clear HTT
      subst K8
      have FIN := Lib.hid (show Ex w3 w.heap.size (l ++ fr r) by
        obtain rfl : r = [] := List.eq_nil_of_length_eq_zero HR.out
        have := X3.out
        rw [← HS.out] at this
        simpa [fr] using this)
      have HTT := Lib.hid (And.intro HK HK2)
      clear HK HK2
      go_wp2_with ((with_reducible show wpList _ _ _ (Oper.mk (some 38) _ _ _ _ _ :: _) _ _); refine wp_cpy (.tmp 36) (.tmp 37) _ rfl rfl w.heap.size 0 _ FIN.out _ 0 0 rfl a2 0 c2 rfl r HR.out Y3.out (fun h => absurd h (by omega)) (Nat.le_refl _) (Nat.zero_le _) w.heap.size w B3.out (Nat.le_refl _) ?_; intro w4 hE4 hb4)
      go_ret2
      refine ⟨rfl, ?_, hb4⟩
      have := FIN.out
      obtain rfl : r = [] := List.eq_nil_of_length_eq_zero HR.out
      simpa using hE4
    · have K8 : (K = 8) = False := by have := HTT.out; simp; omega
      go_wp2_with ((with_reducible show wpList _ _ _ (Oper.mk (some 38) _ _ _ _ _ :: _) _ _); refine wp_cpy (.tmp 36) (.tmp 37) _ rfl rfl w.heap.size (n + 8) _ X3.out _ (K - 8) (K - 8) rfl a2 m c2 rfl r HR.out Y3.out (fun _ => rfl) (by have := HTT.out; omega) (by simp [HL.out, by4_len]; omega) w.heap.size w B3.out (Nat.le_refl _) ?_; intro w4 hE4 hb4)
      go_ret2
      refine ⟨rfl, ?_, hb4⟩
      have e : l ++ by4 m ++ (by4 s ++ List.replicate m 0) = (l ++ by4 m ++ by4 s) ++ List.replicate m 0 := by simp
      have e8 : (l ++ by4 m ++ by4 s).length = n + 8 := by simp [HL.out, by4_len]
      rw [e, List.take_left' e8, ← List.drop_drop, List.drop_left' e8, List.drop_of_length_le (by simp)] at hE4
      have f : fr r = by4 m ++ (by4 s ++ r) := by unfold fr; rw [HR.out, HS.out]
      rw [f]
      simpa using hE4
theorem put_ok (a a2 : Option Addr) (n c m c2 : Nat) (l r : List Int) (w : World) (hl : l.length = n) (hn : n ≤ 900000) (hb : Byt w a l) (hr : r.length = m) (hm : m ≤ 65536) (hb2 : Byt w a2 r) (ht : Tab w) :
    Calls Tryz.prog 73 #[.slice a n c, .slice a2 m c2] w fun e w' => ∃ A T, T = n + (8 + m) ∧ e = .returned (.tuple #[.slice A T T, .int .i64 0]) ∧ Own w' w.heap.size (.slice A T T) (l ++ fr r) ∧ Byt w' A (l ++ fr r) ∧ Below w.heap.size w w' := by
  refine (put_at (n + (8 + m)) a a2 n c m c2 l r w rfl hl hn hb hr hm hb2 ht).mono ?_
  rintro e w' ⟨rfl, h1, h2⟩
  have hlen : (l ++ fr r).length = n + (8 + m) := by rw [List.length_append, fr_len, hl, hr]
  exact ⟨_, _, rfl, rfl, h1.own (Nat.le_refl _) hlen (by omega), h1.byt (Rng.app hb.2 (fr_rng r hb2.2)), h2⟩
end Go.Proofs.YtcodihgjfhoepaaGreatDoor
