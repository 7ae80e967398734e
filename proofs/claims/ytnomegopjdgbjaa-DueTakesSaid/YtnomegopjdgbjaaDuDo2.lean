/- The other operations of a list and of the document's. -/
import Derived.Test.YtnomegopjdgbjaaDuDo
namespace Go.Proofs.Ytnomegopjdgbjaa
open Go Go.RowKit
set_option maxRecDepth 20000

theorem cutL_in {l : List E} {k a : Nat} (ho : Once l) (hm : (k, a) ∈ l) : (cutL l k).length < l.length := by
  have := (once_split ho hm).length_eq
  rw [List.length_append] at this
  simp at this
  omega
set_option maxHeartbeats 4000000 in
theorem do_cut {B : Nat} {W : World} {d m : Nat} {v : Value} {L l : List E} {A : Option Addr} (h : Pl B W d m v L A l) (hB : B ≤ W.heap.size) (n c : Nat) (hl : l.length = n) (hn : n ≤ 1000) (k a : Nat) (hk : k < 18446744073709551616) :
    Calls Try.prog 10 #[ptr d, .slice A n c, opv 1 k a] W (Done B W d m n) := by
  have hb0 := below_alloc W (opc 1 k a)
  have h0 := h.below hb0
  have C1 := Lib.hid (rcut_any _ A n c k l hl h0.prs (by omega))
  have H0 := Lib.hid h0
  have HL := Lib.hid hl
  have HB0 := Lib.hid (hb0.mono hB)
  obtain ⟨x1, x2⟩ := box_in W 1 k a
  have hz : (W.alloc (opc 1 k a)).heap.size = W.heap.size + 1 := by simp
  have HZ := Lib.hid hz
  have hon := h.once
  have HON := Lib.hid hon
  clear hb0 h0 hl x2 hz hon
  go_enter Try.func10, Try.ntmps10
  go_wp2_with fail
  refine C1.out.mono ?_
  rintro e w1 ⟨A1, n1, c1, rfl, g1, g2, g3⟩
  have y1 : w1.cell? ⟨W.heap.size, 1, none⟩ = some (.int .u64 (k : Int)) := (g3.cell (World.block_lt_of_cell? _ _ x1)).trans x1
  have d1 := H0.out.db.below g3
  have hlen : L.length ≤ 90000 := by rw [H0.out.len, HL.out]; omega
  have hle : (cutL l k).length ≤ l.length := List.length_filter_le _ _
  have HLE := Lib.hid hle
  by_cases hm : ∃ a0, (k, a0) ∈ L
  · obtain ⟨a0, hm⟩ := hm
    have hlt : n1 < n := by have := cutL_in HON.out (H0.out.perm.mem_iff.1 hm); have := HL.out; omega
    have hdec : decide (n1 < n) = true := by simpa using hlt
    have C2 := Lib.hid (cut_some d1.dl k a0 hm hlen)
    have G1 := Lib.hid g1
    have G2 := Lib.hid g2
    have D1 := Lib.hid d1
    have BB := Lib.hid (HB0.out.trans (g3.mono (by have := HZ.out; omega)))
    clear g1 g2 g3 d1 C1 x1 hm hle h
    rw [hdec]
    clear hdec
    go_wp2_with fail
    refine C2.out.mono ?_
    rintro e w2 ⟨rfl, v2, L2, f1, f2, f3, f4⟩
    have R := Lib.hid (And.intro f1 (And.intro f2 (And.intro f3 f4)))
    clear f1 f2 f3 f4 C2 y1
    go_wp2_with fail
    go_ret2
    obtain ⟨f1, f2, f3, f4⟩ := R.out
    have o2 : OwnE 37 w2 (W.alloc (opc 1 k a)).heap.size (.slice A1 n1 c1) (cutL l k) := G2.out.keep f3 (fun x hx e => by
      have := (G2.out.lt x hx).1
      have := H0.out.db.dl.lt x e
      omega)
    refine ⟨A1, n1, c1, v2, L2, _, rfl, ⟨D1.out.step f1 (by have := BB.out.size; omega) (fun x hx => .inl (by rw [← f4]; exact hx)), f2.trans (cutL_perm H0.out.perm k), o2.prs, fun x e f => ?_, fun x e => ?_⟩, G1.out, by omega, BB.out.trans (f3.below D1.out.from_ (by have := BB.out.size; omega))⟩
    · have h1 := o2.far x e
      have : Fp d m v x.block := by
        rcases f with f | f | f
        · exact .inl f
        · exact .inr (.inl f)
        · exact .inr (.inr (by rw [← f4]; exact f))
      have := H0.out.db.dl.lt _ this
      omega
    · subst e
      exact (o2.lt x.block rfl).2
  · have hno : ∀ e ∈ L, e.1 ≠ k := fun e he e1 => hm ⟨e.2, by rw [← e1]; exact he⟩
    have hno' : ∀ e ∈ l, e.1 ≠ k := fun e he => hno e (H0.out.perm.mem_iff.2 he)
    have hcl := cutL_none hno'
    have hdec : decide (n1 < n) = false := by have := HL.out; rw [hcl] at g1; simp; omega
    have C2 := Lib.hid (cut_none d1.dl k hk hno)
    have PM := Lib.hid (show L.Perm (cutL l k) by rw [hcl]; exact H0.out.perm)
    have G1 := Lib.hid g1
    have G2 := Lib.hid g2
    have D1 := Lib.hid d1
    have BB := Lib.hid (HB0.out.trans (g3.mono (by have := HZ.out; omega)))
    clear g1 g2 g3 d1 C1 x1 hm hle h hno hno' hcl
    rw [hdec]
    clear hdec
    go_wp2_with fail
    refine C2.out.mono ?_
    rintro e w2 ⟨rfl, rfl⟩
    clear C2 y1
    go_wp2_with fail
    go_ret2
    refine ⟨A1, n1, c1, v, L, _, rfl, ⟨D1.out, PM.out, G2.out.prs, fun x e f => ?_, fun x e => ?_⟩, G1.out, by have := G1.out; have := HLE.out; have := HL.out; omega, BB.out⟩
    · have h1 := G2.out.far x e
      have := H0.out.db.dl.lt _ f
      omega
    · subst e
      exact (G2.out.lt x.block rfl).2
/- both Takes, one behind the other, and what they answer compared -/
theorem both_take {B : Nat} {W : World} {d m : Nat} {v : Value} {L l : List E} {A : Option Addr} (h : Pl B W d m v L A l) (hB : B ≤ W.heap.size) (n c : Nat) (hl : l.length = n) (hn : n ≤ 1000) (a : Nat) :
    Calls Try.prog 21 #[.slice A n c, .int .u64 (a : Int)] W fun e w1 => ∃ T kn ct A1 n1 c1, e = .returned (.tuple #[.slice T kn ct, .slice A1 n1 c1]) ∧ Below W.heap.size W w1 ∧
      Calls Try.prog 14 #[ptr d, .int .u64 (a : Int)] w1 fun e w2 => ∃ A2 n2 c2, e = .returned (.slice A2 n2 c2) ∧
        Calls Try.prog 18 #[.slice A2 n2 c2, .slice T kn ct] w2 fun e w3 => e = .returned (.bool true) ∧
          ∃ v2 R2 R, Pl B w3 d m v2 R2 A1 R ∧ R.length = n1 ∧ n1 ≤ n ∧ Below B W w3 := by
  refine (rtake_any W A n c a l hl h.prs h.once (by omega) h.lt).mono ?_
  rintro e w1 ⟨t, ks, A1, n1, c1, R, rfl, g1, g2, g3, g4, g5, g6, g7⟩
  obtain ⟨At, ct, rfl, _⟩ := g1.form
  refine ⟨At, _, ct, A1, n1, c1, rfl, g5, ?_⟩
  have d1 := h.db.below g5
  have bb : Below B W w1 := g5.mono hB
  have hLl : L.length ≤ 1000 := by rw [h.len, hl]; exact hn
  refine (take_b d1 (by have := bb.size; omega) a (by omega)).mono ?_
  rintro e w2 ⟨A2, n2, c2, ks2, v2, R2, rfl, f1, f2, f3, f4, f5, f6, f7, f8⟩
  refine ⟨A2, n2, c2, rfl, ?_⟩
  obtain ⟨e1, e2⟩ := f4.det h.perm g2
  subst e1
  have o2 : OwnK w2 W.heap.size (.slice At ks2.length ct) ks2 := g1.keep f7 (fun x hx e => by
    have := (g1.lt x hx).1
    have := h.db.dl.lt x e
    omega)
  obtain ⟨At', ct', et, k2⟩ := o2.form
  injection et with et _ _
  subst et
  have hfar1 : ∀ x, A1 = some x → ¬ Fp d m v x.block := fun x hx e => by
    rcases g6 x hx with c | c
    · exact h.far x c e
    · have := h.db.dl.lt _ e
      omega
  have p2 : Prs w2 A1 R := g4.keep f7 hfar1
  obtain ⟨T, q1, q2, _, _⟩ := f4.parts
  have hlen := q2.length_eq
  rw [List.length_append] at hlen
  have hks : ks2.length ≤ 1000 := by rw [← q1, List.length_map]; omega
  have hRl := e2.length_eq
  have hLn : L.length = n := by rw [h.len, hl]
  refine (equal_any w2 A2 At n2 ks2.length c2 ct ks2 ks2 f1 rfl f3 k2 (by omega)).mono ?_
  rintro e w3 ⟨rfl, B3⟩
  have b2 : Below B W w2 := bb.trans f6
  refine ⟨by simp, v2, R2, R, ⟨f5.below B3, e2, p2.below B3, fun x e f => hfar1 x e ?_, fun x e => by have := g7 x e; have := f7.size; have := B3.size; omega⟩, g3, by omega, b2.trans (B3.mono (by have := b2.size; omega))⟩
  rcases f with f | f | f
  · exact .inl f
  · exact .inr (.inl f)
  · exact .inr (.inr (by rw [← f8]; exact f))
set_option maxHeartbeats 4000000 in
theorem do_take {B : Nat} {W : World} {d m : Nat} {v : Value} {L l : List E} {A : Option Addr} (h : Pl B W d m v L A l) (hB : B ≤ W.heap.size) (n c : Nat) (hl : l.length = n) (hn : n ≤ 1000) (k a : Nat) :
    Calls Try.prog 10 #[ptr d, .slice A n c, opv 2 k a] W (Done B W d m n) := by
  have hb0 := below_alloc W (opc 2 k a)
  have C1 := Lib.hid (both_take (h.below hb0) (by simp; omega) n c hl hn a)
  have HB0 := Lib.hid (hb0.mono hB)
  obtain ⟨_, x2⟩ := box_in W 2 k a
  clear hb0 hl h
  go_enter Try.func10, Try.ntmps10
  go_wp2_with fail
  refine C1.out.mono ?_
  rintro e w1 ⟨T, kn, ct, A1, n1, c1, rfl, g5, C2⟩
  have y2 : w1.cell? ⟨W.heap.size, 2, none⟩ = some (.int .u64 (a : Int)) := (g5.cell (World.block_lt_of_cell? _ _ x2)).trans x2
  have C2 := Lib.hid C2
  clear g5 x2 C1
  go_wp2_with fail
  refine C2.out.mono ?_
  rintro e w2 ⟨A2, n2, c2, rfl, C3⟩
  have C3 := Lib.hid C3
  clear C2 y2
  go_wp2_with fail
  refine C3.out.mono ?_
  rintro e w3 ⟨rfl, v2, R2, R, p1, p2, p3, p4⟩
  have Y := Lib.hid (And.intro p1 (And.intro p2 (And.intro p3 p4)))
  clear p1 p2 p3 p4 C3
  go_wp2_with fail
  go_ret2
  obtain ⟨p1, p2, p3, p4⟩ := Y.out
  exact ⟨A1, n1, c1, v2, R2, R, rfl, p1, p2, by omega, HB0.out.trans p4⟩
/- the key is looked for in the document's list -/
set_option maxHeartbeats 4000000 in
theorem do_at_in {B : Nat} {W : World} {d m : Nat} {v : Value} {L l : List E} {A : Option Addr} (h : Pl B W d m v L A l) (hB : B ≤ W.heap.size) (n c : Nat) (hl : l.length = n) (hn : n ≤ 1000) (q : Int) (q0 : ¬ q = 0) (q1 : ¬ q = 1) (q2 : ¬ q = 2) (k a a0 : Nat) (hm : (k, a0) ∈ L) :
    Calls Try.prog 10 #[ptr d, .slice A n c, opv q k a] W (Done B W d m n) := by
  have hb0 := below_alloc W (opc q k a)
  have h0 := h.below hb0
  have C1 := Lib.hid (at_some h0.db.dl k a0 hm)
  have H0 := Lib.hid h0
  have HL := Lib.hid hl
  have HB0 := Lib.hid (hb0.mono hB)
  have HM := Lib.hid (h.perm.mem_iff.1 hm)
  have HO := Lib.hid h.once
  obtain ⟨x1, _⟩ := box_in W q k a
  have X := Lib.hid x1
  have hz : (W.alloc (opc q k a)).heap.size = W.heap.size + 1 := by simp
  have HZ := Lib.hid hz
  clear hb0 h0 hl hz h hm x1
  go_enter Try.func10, Try.ntmps10
  go_wp2_with fail
  refine C1.out.mono ?_
  rintro e w1 ⟨rfl, rfl⟩
  clear C1
  go_wp2_with fail
  go_loopw [73] (fun s wr => ∃ (i : Nat), s = .int .i64 i ∧ i ≤ n ∧ Hid (Below (W.heap.size + 1) (W.alloc (opc q k a)) wr ∧ ∀ j, j < i → (g l j).1 ≠ k)) (fun s _ => n - (intOf s).toNat)
  case atStart => exact ⟨0, rfl, by omega, Below.refl _ _, fun j hj => absurd hj (by omega)⟩
  case round =>
    obtain ⟨i, rfl, hi, H⟩ := hrel
    have hw : Below (W.alloc (opc q k a)).heap.size (W.alloc (opc q k a)) wr := by rw [HZ.out]; exact H.out.1
    by_cases ci : i < n
    · have z1 : wr.cell? ⟨W.heap.size, 1, none⟩ = some (.int .u64 (k : Int)) := (hw.cell (World.block_lt_of_cell? _ _ X.out)).trans X.out
      obtain ⟨b, off, rfl, y1, y2⟩ := (H0.out.prs.below hw) i (by have := HL.out; omega)
      have hbl : b < wr.heap.size := World.block_lt_of_cell? _ _ y1
      have hsz : W.heap.size < wr.heap.size := by have := hw.size; have := HZ.out; omega
      have ci' : (i : Int) < (n : Int) := by omega
      have ci0 : (0 : Int) ≤ (i : Int) := by omega
      by_cases ck : (g l i).1 = k
      · have he : g l i = (k, a0) := by
          have h1 : g l i ∈ l := g_mem l i (by have := HL.out; omega)
          obtain ⟨i2, hi2, e2⟩ := mem_g HM.out
          have hon := HO.out
          unfold Once at hon
          rw [List.pairwise_iff_getElem] at hon
          have hil : i < l.length := by have := HL.out; omega
          have h5 := hon i i2 hil hi2
          have h6 := hon i2 i hi2 hil
          rw [← g_lt l i hil, ← g_lt l i2 hi2, e2] at h5 h6
          simp only [ck] at h5 h6
          have : i = i2 := by
            rcases Nat.lt_trichotomy i i2 with c | c | c
            · exact absurd rfl (h5 c)
            · exact c
            · exact absurd rfl (h6 c)
          rw [this, e2]
        rw [he] at y1 y2
        simp only at y1 y2
        have P1 := Lib.hid (H0.out.below hw)
        have B1 := Lib.hid (HB0.out.trans (hw.mono (by have := HZ.out; omega)))
        clear H hw ck he
        go_wp2_with fail
        go_ret2
        have hbx := below_alloc wr (.cells #[.int .u64 (k : Int), .int .u64 (a0 : Int)] 37)
        exact ⟨_, n, c, v, L, l, by simp, P1.out.below hbx, HL.out, by omega, B1.out.trans (hbx.mono (by have := B1.out.size; omega))⟩
      · have ck' : ¬ (((g l i).1 : Int) = (k : Int)) := by omega
        have NX := Lib.hid (fun j (hj : j < i + 1) => show (g l j).1 ≠ k by
          rcases Nat.lt_or_ge j i with c | c
          · exact H.out.2 j c
          · obtain rfl : j = i := by omega
            exact ck)
        have B1 := Lib.hid H.out.1
        generalize g l i = y at *
        obtain ⟨r1, r2⟩ := y
        simp only at y1 y2 ck'
        clear H hw ck
        go_wp2_with fail
        go_roundw
        case rel => exact ⟨i + 1, by go_num, by omega, B1.out.trans ((below_alloc wr _).mono (by omega)), NX.out⟩
        case measure => simp [intOf]; omega
    · obtain ⟨i2, hi2, e2⟩ := mem_g HM.out
      have := H.out.2 i2 (by have := HL.out; omega)
      rw [e2] at this
      exact absurd rfl this
set_option maxHeartbeats 4000000 in
theorem do_at_out {B : Nat} {W : World} {d m : Nat} {v : Value} {L l : List E} {A : Option Addr} (h : Pl B W d m v L A l) (hB : B ≤ W.heap.size) (n c : Nat) (hl : l.length = n) (hn : n ≤ 1000) (q : Int) (q0 : ¬ q = 0) (q1 : ¬ q = 1) (q2 : ¬ q = 2) (k a : Nat) (hk : k < 18446744073709551616) (hm : ∀ e ∈ L, e.1 ≠ k) :
    Calls Try.prog 10 #[ptr d, .slice A n c, opv q k a] W (Done B W d m n) := by
  have hb0 := below_alloc W (opc q k a)
  have h0 := h.below hb0
  have C1 := Lib.hid (at_none h0.db.dl k hk hm)
  have H0 := Lib.hid h0
  have HL := Lib.hid hl
  have HB0 := Lib.hid (hb0.mono hB)
  have HM := Lib.hid (fun i (hi : i < n) => hm (g l i) (h.perm.mem_iff.2 (g_mem l i (by omega))))
  obtain ⟨x1, _⟩ := box_in W q k a
  have X := Lib.hid x1
  have hz : (W.alloc (opc q k a)).heap.size = W.heap.size + 1 := by simp
  have HZ := Lib.hid hz
  clear hb0 h0 hl hz h hm x1
  go_enter Try.func10, Try.ntmps10
  go_wp2_with fail
  refine C1.out.mono ?_
  rintro e w1 ⟨rfl, rfl⟩
  clear C1
  go_wp2_with fail
  go_loopw [73] (fun s wr => ∃ (i : Nat), s = .int .i64 i ∧ i ≤ n ∧ Hid (Below (W.heap.size + 1) (W.alloc (opc q k a)) wr)) (fun s _ => n - (intOf s).toNat)
  case atStart => exact ⟨0, rfl, by omega, Below.refl _ _⟩
  case round =>
    obtain ⟨i, rfl, hi, H⟩ := hrel
    have hw : Below (W.alloc (opc q k a)).heap.size (W.alloc (opc q k a)) wr := by rw [HZ.out]; exact H.out
    by_cases ci : i < n
    · have z1 : wr.cell? ⟨W.heap.size, 1, none⟩ = some (.int .u64 (k : Int)) := (hw.cell (World.block_lt_of_cell? _ _ X.out)).trans X.out
      obtain ⟨b, off, rfl, y1, y2⟩ := (H0.out.prs.below hw) i (by have := HL.out; omega)
      have hbl : b < wr.heap.size := World.block_lt_of_cell? _ _ y1
      have hsz : W.heap.size < wr.heap.size := by have := hw.size; have := HZ.out; omega
      have ci' : (i : Int) < (n : Int) := by omega
      have ci0 : (0 : Int) ≤ (i : Int) := by omega
      have ck' : ¬ (((g l i).1 : Int) = (k : Int)) := by have := HM.out i ci; omega
      have B1 := Lib.hid H.out
      generalize g l i = y at *
      obtain ⟨r1, r2⟩ := y
      simp only at y1 y2 ck'
      clear H hw
      go_wp2_with fail
      go_roundw
      case rel => exact ⟨i + 1, by go_num, by omega, B1.out.trans ((below_alloc wr _).mono (by omega))⟩
      case measure => simp [intOf]; omega
    · obtain rfl : i = n := by omega
      have P1 := Lib.hid (H0.out.below hw)
      have B1 := Lib.hid (HB0.out.trans (hw.mono (by have := HZ.out; omega)))
      clear H hw ci
      go_wp2_with fail
      go_ret2
      exact ⟨_, i, c, v, L, l, by simp, P1.out, HL.out, by omega, B1.out⟩
theorem do_any {B : Nat} {W : World} {d m : Nat} {v : Value} {L l : List E} {A : Option Addr} (h : Pl B W d m v L A l) (hB : B ≤ W.heap.size) (n c : Nat) (hl : l.length = n) (hn : n ≤ 1000) (q : Int) (k a : Nat) (hk : k < 18446744073709551616) (ha : a < 18446744073709551616) :
    Calls Try.prog 10 #[ptr d, .slice A n c, opv q k a] W (Done B W d m n) := by
  by_cases c0 : q = 0
  · subst c0; exact do_set h hB n c hl hn k a hk ha
  · by_cases c1 : q = 1
    · subst c1; exact do_cut h hB n c hl hn k a hk
    · by_cases c2 : q = 2
      · subst c2; exact do_take h hB n c hl hn k a
      · by_cases hm : ∃ a0, (k, a0) ∈ L
        · obtain ⟨a0, hm⟩ := hm
          exact do_at_in h hB n c hl hn q c0 c1 c2 k a a0 hm
        · exact do_at_out h hB n c hl hn q c0 c1 c2 k a hk (fun e he e1 => hm ⟨e.2, by rw [← e1]; exact he⟩)
end Go.Proofs.Ytnomegopjdgbjaa
