/- The program's reading: runs. -/
import Derived.Test.YtmooblbnkjaenaaSnN
namespace Go.Proofs.Ytmooblbnkjaenaa
open Go Go.RowKit Pk
set_option maxRecDepth 20000

theorem Fr.cell {r g : Nat} {w w' : World} (h : Fr r g w w') {x j : Nat} {v : Value} (hx : x < w.heap.size) (h1 : x ≠ r) (h2 : x ≠ g) (hc : w.cell? ⟨x, j, none⟩ = some v) : w'.cell? ⟨x, j, none⟩ = some v := by
  rw [World.cell?_of_block (h.b x hx h1 h2)]; exact hc
/- while runs are read -/
structure Lq (w W : World) (d : Nat) (A : Option Addr) (m c : Nat) (g : Nat) (p : Ru) (A' : Option Addr) (k' c' : Nat) (R : List Ru) (σ : Sg) : Prop where
  b : Rb W d (.slice A m c) σ
  a : W.heap[g]? = some (robj p)
  o : OwnRu W (g + 1) (.slice A' k' c') R
  l : R.length = k'
  fr : Fr d d w W
  dg : d < g
  gw : w.heap.size ≤ g
theorem Lq.gl {w W : World} {d : Nat} {A : Option Addr} {m c : Nat} {g : Nat} {p : Ru} {A' : Option Addr} {k' c' : Nat} {R : List Ru} {σ : Sg} (h : Lq w W d A m c g p A' k' c' R σ) : g < W.heap.size := (Array.getElem?_eq_some_iff.1 h.a).1
theorem Lq.call {w W W' : World} {d : Nat} {A : Option Addr} {m c : Nat} {g : Nat} {p : Ru} {A' : Option Addr} {k' c' : Nat} {R : List Ru} {σ σ' : Sg} (h : Lq w W d A m c g p A' k' c' R σ) (hb : Rb W' d (.slice A m c) σ') (hf : Fr d d W W') : Lq w W' d A m c g p A' k' c' R σ' :=
  ⟨hb, by have := h.dg; rw [hf.b g h.gl (by omega) (by omega)]; exact h.a, row_same h.o fun k cur hk hh => by
    have h1 := (World.ownsRow.lt h.o k hk).1
    have h2 := (World.ownsRow.lt h.o k hk).2
    have := h.dg
    rw [hf.b k (Array.getElem?_eq_some_iff.1 hh).1 (by omega) (by omega)]; exact hh, h.l, h.fr.trans hf, h.dg, h.gw⟩
theorem Lq.next {w W W' : World} {d : Nat} {A : Option Addr} {m c : Nat} {g : Nat} {p : Ru} {A' : Option Addr} {k' c' : Nat} {R : List Ru} {σ : Sg} (h : Lq w W d A m c g p A' k' c' R σ) (hb : Below W.heap.size W W') : Lq w W' d A m c g p A' k' c' R σ :=
  h.call (h.b.next hb) (Fr.of_below hb)
theorem Lq.set {w W : World} {d : Nat} {A : Option Addr} {m c : Nat} {g : Nat} {p : Ru} {A' : Option Addr} {k' c' : Nat} {R : List Ru} {σ : Sg} (h : Lq w W d A m c g p A' k' c' R σ) (s t x : Nat) :
    Lq w (((W.setCell ⟨g, 0, none⟩ (.int .u64 (s : Int))).setCell ⟨g, 1, none⟩ (.int .u64 (t : Int))).setCell ⟨g, 2, none⟩ (.int .u64 (x : Int))) d A m c g ⟨s, t, x⟩ A' k' c' R σ := by
  have hd := h.dg
  have hw := h.gw
  have b1 := heap_setCell_same W g 0 _ _ (.int .u64 (s : Int)) h.a
  have b2 := heap_setCell_same _ g 1 _ _ (.int .u64 (t : Int)) b1
  have b3 := heap_setCell_same _ g 2 _ _ (.int .u64 (x : Int)) b2
  have ot : ∀ k, k ≠ g → (((W.setCell ⟨g, 0, none⟩ (.int .u64 (s : Int))).setCell ⟨g, 1, none⟩ (.int .u64 (t : Int))).setCell ⟨g, 2, none⟩ (.int .u64 (x : Int))).heap[k]? = W.heap[k]? := fun k hk => by
    rw [heap_setCell_other _ ⟨g, 2, none⟩ k _ hk, heap_setCell_other _ ⟨g, 1, none⟩ k _ hk, heap_setCell_other _ ⟨g, 0, none⟩ k _ hk]
  refine ⟨?_, by rw [b3]; rfl, ?_, h.l, ?_, hd, hw⟩
  · unfold Rb
    rw [ot d (by omega)]
    exact h.b
  · exact row_same h.o fun k cur hk hh => by
      have h1 := (World.ownsRow.lt h.o k hk).1
      rw [ot k (by omega)]; exact hh
  · exact ⟨h.fr.o.trans ((((Below.refl 0 W).setCell (p := ⟨g, 0, none⟩) (Nat.zero_le _) _).setCell (p := ⟨g, 1, none⟩) (Nat.zero_le _) _).setCell (p := ⟨g, 2, none⟩) (Nat.zero_le _) _), fun k hk h1 h2 => by rw [ot k (by omega)]; exact h.fr.b k hk h1 h2⟩
theorem Lq.more {w W W' : World} {d : Nat} {A : Option Addr} {m c : Nat} {g : Nat} {p : Ru} {A' : Option Addr} {k' c' : Nat} {R : List Ru} {σ : Sg} (h : Lq w W d A m c g p A' k' c' R σ) {A2 : Option Addr} {k2 c2 : Nat} {r : Ru} (hb : Below (g + 1) W W') (ho : OwnRu W' (g + 1) (.slice A2 k2 c2) (R ++ [r])) (hk : k' + 1 = k2) : Lq w W' d A m c g p A2 k2 c2 (R ++ [r]) σ := by
  have hd := h.dg
  have hw := h.gw
  refine ⟨?_, (hb.block g (by omega)).trans h.a, ho, by rw [List.length_append, h.l]; exact hk, ?_, hd, hw⟩
  · unfold Rb
    rw [hb.block d (by omega)]
    exact h.b
  · exact ⟨h.fr.o.trans (hb.mono (Nat.zero_le _)), fun k hk h1 h2 => by rw [hb.block k (by omega)]; exact h.fr.b k hk h1 h2⟩
set_option maxHeartbeats 8000000 in
theorem runs_any (d : Nat) (A : Option Addr) (m c : Nat) (l : List Int) (σ : Sg) (w : World) (h : Rb w d (.slice A m c) σ) (hl : l.length = m) (hm : m ≤ 100000) (hc : m ≤ c) (hb : Byt w A l) (hd : ∀ W, Fr d d w W → Byt W A l) :
    Calls Try.prog 28 #[.pointer (some ⟨d, 0, none⟩)] w fun e w' => ∃ A' k' c', e = .returned (.slice A' k' c') ∧ (rsL l σ).length = k' ∧ OwnRu w' w.heap.size (.slice A' k' c') (rsL l σ) ∧ Rb w' d (.slice A m c) (rsS l σ) ∧ Fr d d w w' := by
  have HD := Lib.hid hd
  have HL := Lib.hid hl
  have HR := Lib.hid hb.2
  have FAR := Lib.hid h.lt
  have C1 := Lib.hid (fun (W : World) (a : Nat) (s : Sg) (hB : Rb W d (.slice A m c) s) (hF : Fr d d w W) (ha : a < 18446744073709551616) => above_any d A m c l a s W hB hl hm hc (hd W hF) ha)
  have C2 := Lib.hid (fun (W : World) (s : Sg) (hB : Rb W d (.slice A m c) s) (hF : Fr d d w W) => number_any d A m c l s W hB hl hm hc (hd W hF))
  have N0 := Lib.hid (number_any d A m c l σ w h hl hm hc hb)
  have HN := Lib.hid (rdn_lt l σ hb.2)
  clear h hl hb hd
  go_enter Try.func28, Try.ntmps28
  go_wp2_with fail
  refine N0.out.mono ?_
  rintro _ w1 ⟨rfl, hr1, hf1⟩
  have R1 := Lib.hid hr1
  have F1 := Lib.hid hf1
  clear hr1 hf1 N0
  by_cases c1 : 64 < rdn l σ
  · have d1 : decide ((rdn l σ : Int) ≤ 64) = false := decide_eq_false (by omega)
    have z : (rds l σ).2 = 0 := Decidable.byContradiction fun k => by rw [rdn_err l σ k] at c1; omega
    have e1 := Lib.hid (show rsL l σ = [] ∧ rsS l σ = ((rds l σ).1, 12) by unfold rsL rsS; rw [if_pos c1, if_pos c1]; exact ⟨rfl, rfl⟩)
    have em : mst (rds l σ) false 12 = ((rds l σ).1, 12) := by unfold mst; rw [if_pos ⟨z, rfl⟩]
    have M := Lib.hid (must_any d A m c (rds l σ) false 12 (by omega) w1 R1.out)
    rw [em] at M
    clear z em
    go_wp2_with fail
    refine M.out.mono ?_
    rintro _ w2 ⟨rfl, hr2, hf2⟩
    have R2 := Lib.hid hr2
    have F2 := Lib.hid (F1.out.trans hf2)
    clear hr2 hf2 M
    go_wp2_with fail
    go_ret
    exact ⟨none, 0, 0, rfl, by rw [e1.out.1]; rfl, by rw [e1.out.1]; exact OwnRu.nil _ _, by rw [e1.out.2]; exact R2.out, F2.out⟩
  · have d1 : decide ((rdn l σ : Int) ≤ 64) = true := decide_eq_true (by omega)
    have M := Lib.hid (must_any d A m c (rds l σ) true 12 (by omega) w1 R1.out)
    rw [mst_yes] at M
    have e1 := Lib.hid (show rsL l σ = (rrs l (rdn l σ) rz (rds l σ)).1 ∧ rsS l σ = (rrs l (rdn l σ) rz (rds l σ)).2 by unfold rsL rsS; rw [if_neg c1, if_neg c1]; exact ⟨rfl, rfl⟩)
    obtain ⟨n, hn⟩ : ∃ n, rdn l σ = n := ⟨_, rfl⟩
    obtain ⟨s0, hs⟩ : ∃ s0, rds l σ = s0 := ⟨_, rfl⟩
    rw [hs] at M
    rw [hn, hs] at e1
    rw [hn] at c1 d1 HN ⊢
    have n64 := Lib.hid c1
    have HS0 := Lib.hid (fun (k : s0.2 ≠ 0) => show n = 0 by rw [← hn]; exact rdn_err l σ (by rw [hs]; exact k))
    clear hn c1 R1
    by_cases c2 : s0.2 = 0
    · have d2 : decide (s0.2 = 0) = true := decide_eq_true c2
      go_wp2_with fail
      refine M.out.mono ?_
      rintro _ w2 ⟨rfl, hr2, hf2⟩
      have F2 := Lib.hid (F1.out.trans hf2)
      have LT := Lib.hid F2.out.z
      have L0 : Hid (Lq w (w2.alloc (.cells #[.int .u64 0, .int .u64 0, .int .u64 0] 43)) d A m c w2.heap.size rz none 0 0 [] s0) := Lib.hid
        ⟨hr2.next (below_alloc _ _), heap_alloc_new w2 _, OwnRu.nil _ _, rfl, F2.out.next (below_alloc _ _), Nat.lt_of_lt_of_le FAR.out LT.out, LT.out⟩
      clear hr2 hf2 M F1
      go_upto_region 7 with fail
      generalize (w2.alloc (.cells #[.int .u64 0, .int .u64 0, .int .u64 0] 43)) = w3 at L0 ⊢
      generalize w2.heap.size = g at L0 ⊢
      go_loopw [14, 4] (fun v y W => ∃ (i : Nat) (A' : Option Addr) (k' c' : Nat) (p : Ru) (s : Sg) (R : List Ru), v = .int .u64 (i : Int) ∧ y = .slice A' k' c' ∧ i ≤ n ∧ Hid (Lq w W d A m c g p A' k' c' R s ∧ Okr p ∧ R.length = i ∧ rrs l n rz s0 = (R ++ (rrs l (n - i) p s).1, (rrs l (n - i) p s).2))) (fun v _ _ => n - (intOf v).toNat)
      case atStart => exact ⟨0, none, 0, 0, rz, s0, [], rfl, rfl, by omega, Lib.hid ⟨L0.out, ⟨by decide, by decide, by decide⟩, rfl, rfl⟩⟩
      case round =>
        obtain ⟨i, A', k', c', p, s, R, rfl, rfl, hi, H⟩ := hrel
        clear L0 F2 LT
        by_cases ci : i < n
        · obtain ⟨ps, pt, px⟩ := p
          have HO := Lib.hid H.out.2.1
          have HI := Lib.hid H.out.2.2
          have X := Lib.hid H.out.1
          clear H
          have dl : decide ((i : Int) < (n : Int)) = true := decide_eq_true (by omega)
          have hwr : IntKind.u64.wrap ((i : Int) + 1) = ((i + 1 : Nat) : Int) := by have := n64.out; rw [IntKind.wrap_u64]; omega
          obtain ⟨p0, p1, _, _⟩ := robj_cells X.out.a
          go_wp2_with fail
          have XD := Lib.hid (X.out.next (Below.refl _ _).drew)
          clear X
          go_region_with (first
            | (go_at_call 31; (with_reducible refine Calls.mono (C1.out _ ps s XD.out.b XD.out.fr HO.out.s) ?_); rintro e w5 ⟨rfl, hr5, hf5⟩; have X5 := Lib.hid (XD.out.call hr5 hf5); clear hr5 hf5; have p1 := (robj_cells X5.out.a).2.1)
            | (go_at_call 31; (with_reducible refine Calls.mono (C1.out _ pt _ X5.out.b X5.out.fr HO.out.t) ?_); rintro e w6 ⟨rfl, hr6, hf6⟩; have X6 := Lib.hid (X5.out.call hr6 hf6); clear hr6 hf6)
            | (go_at_call 26; (with_reducible refine Calls.mono (C2.out _ _ X6.out.b X6.out.fr) ?_); rintro e w7 ⟨rfl, hr7, hf7⟩; have X7 := Lib.hid (X6.out.call hr7 hf7); clear hr7 hf7; have f0 := (robj_cells X7.out.a).2.2.2 0; have f1 := (robj_cells X7.out.a).2.2.2 1; have f2 := (robj_cells X7.out.a).2.2.2 2; have q0 := (robj_cells X7.out.a).1; have q1 := (robj_cells X7.out.a).2.1; have q2 := (robj_cells X7.out.a).2.2.1; clear p0 p1))
          all_goals
            have X8 := Lib.hid (X7.out.set (abn l ps s) (abn l pt (abs l ps s)) (rdn l (abs l pt (abs l ps s))))
            clear X7 X6 X5 XD f0 f1 f2 q0 q1 q2
            generalize (((w7.setCell ⟨g, 0, none⟩ (.int .u64 (abn l ps s : Int))).setCell ⟨g, 1, none⟩ (.int .u64 (abn l pt (abs l ps s) : Int))).setCell ⟨g, 2, none⟩ (.int .u64 (rdn l (abs l pt (abs l ps s)) : Int))) = w8 at X8 ⊢
            obtain ⟨r0, r1, r2, _⟩ := robj_cells X8.out.a
            have NB := Lib.hid (below_alloc w8 (robj ⟨abn l ps s, abn l pt (abs l ps s), rdn l (abs l pt (abs l ps s))⟩))
            have O8 := Lib.hid (OwnRu.below X8.out.o NB.out)
            have MB := Lib.hid (robj_cells (heap_alloc_new w8 (robj ⟨abn l ps s, abn l pt (abs l ps s), rdn l (abs l pt (abs l ps s))⟩)))
            have SZ := Lib.hid (Nat.le_trans X8.out.gl NB.out.size)
            go_wp2_with (at_builtin; refine wp_appRu (.tmp 27) (.tmp 29) _ rfl rfl (g + 1) _ R rfl O8.out w8.heap.size rfl ⟨abn l ps s, abn l pt (abs l ps s), rdn l (abs l pt (abs l ps s))⟩ MB.out.1 MB.out.2.1 MB.out.2.2.1 (by have := HI.out.1; have := n64.out; omega) SZ.out (k' + 1) (by rw [X8.out.l]) ?_; intro A9 c9 w9 ho9 hb9; have X9 := Lib.hid ((X8.out.next NB.out).more hb9 ho9 rfl); clear ho9 hb9 X8 NB O8 MB SZ r0 r1 r2)
            refine ⟨⟨i + 1, A9, k' + 1, c9, ⟨abn l ps s, abn l pt (abs l ps s), rdn l (abs l pt (abs l ps s))⟩, _, R ++ [⟨abn l ps s, abn l pt (abs l ps s), rdn l (abs l pt (abs l ps s))⟩], by go_num, rfl, by omega, Lib.hid ⟨X9.out, onr_ok l ⟨ps, pt, px⟩ s HR.out, by rw [List.length_append, HI.out.1]; rfl, ?_⟩⟩, by simp [intOf]; omega⟩
            rw [HI.out.2, show n - i = (n - (i + 1)) + 1 by omega]
            simp only [rrs, List.append_assoc]
            rfl
        · obtain rfl : i = n := by omega
          have E2 := Lib.hid (show rrs l i rz s0 = (R, s) by have := H.out.2.2.2; rw [Nat.sub_self] at this; simpa [rrs] using this)
          have X := Lib.hid H.out.1
          clear H
          have dl : decide ((i : Int) < (i : Int)) = false := by simp
          go_wp2_with fail
          go_ret
          exact ⟨A', k', c', rfl, by rw [e1.out.1, E2.out]; exact X.out.l, by rw [e1.out.1, E2.out]; exact row_mono X.out.o (by have := X.out.gw; omega), by rw [e1.out.2, E2.out]; exact X.out.b, X.out.fr⟩
    · have d2 : decide (s0.2 = 0) = false := decide_eq_false c2
      have e2 := Lib.hid (show rsL l σ = [] ∧ rsS l σ = s0 by
        have hz : n = 0 := by
          have := HS0.out c2
          exact this
        rw [e1.out.1, e1.out.2, hz]
        exact ⟨rfl, rfl⟩)
      go_wp2_with fail
      refine M.out.mono ?_
      rintro _ w2 ⟨rfl, hr2, hf2⟩
      have R2 := Lib.hid hr2
      have F2 := Lib.hid (F1.out.trans hf2)
      clear hr2 hf2 M
      go_wp2_with fail
      go_ret
      exact ⟨none, 0, 0, rfl, by rw [e2.out.1]; rfl, by rw [e2.out.1]; exact OwnRu.nil _ _, by rw [e2.out.2]; exact R2.out, F2.out⟩
end Go.Proofs.Ytmooblbnkjaenaa
