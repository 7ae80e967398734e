/- A place more. -/
import Derived.Test.YtpnllbojifnopaaGreatDoorAuA
import Derived.Deep.RegionHeldLaw
import Derived.Deep.DeepCutAuto
import Derived.Deep.RegionLaw
namespace Go.Proofs.YtpnllbojifnopaaGreatDoor
open Go Go.RowKit Pk Rl
set_option maxRecDepth 20000

/- first and last places in a box -/
def EB (w : World) (g : Nat) (a b : Nat) : Prop := w.heap[g]? = some (.cells #[.int .u32 (a : Int), .int .u32 (b : Int)] 121 (0, 0))
abbrev eobj (a b : Nat) : Obj := .cells #[.int .u32 (a : Int), .int .u32 (b : Int)] 121
abbrev ev2 (a b : Nat) : Value := .agg #[.int .u32 (a : Int), .int .u32 (b : Int)]
theorem EB.cells {w : World} {g a b : Nat} (h : EB w g a b) : w.cell? ⟨g, 0, none⟩ = some (.int .u32 (a : Int)) ∧ w.cell? ⟨g, 1, none⟩ = some (.int .u32 (b : Int)) ∧ ∀ j, w.frozen? ⟨g, j, none⟩ = false := by
  refine ⟨by rw [cell_of_row w g _ _ _ _ h]; rfl, by rw [cell_of_row w g _ _ _ _ h]; rfl, fun j => ?_⟩
  simp [World.frozen?, EB] at h ⊢
  simp [h]
theorem EB.lt {w : World} {g a b : Nat} (h : EB w g a b) : g < w.heap.size := (Array.getElem?_eq_some_iff.1 h).1
theorem EB.alloc (w : World) (a b : Nat) : EB (w.alloc (eobj a b)) w.heap.size a b := heap_alloc_new w _
theorem EB.next {w w' : World} {g a b : Nat} (h : EB w g a b) (hb : Below w.heap.size w w') : EB w' g a b := by unfold EB; rw [hb.block g h.lt]; exact h
theorem EB.ka {r : Nat} {w w' : World} {g a b : Nat} (h : EB w g a b) (k : Ka r w w') (hg : g ≠ r) : EB w' g a b := k.b g _ h hg (fun _ _ _ e => by injection e with _ e _; rw [← e]; decide)
theorem EB.set0 {w : World} {g a b : Nat} (h : EB w g a b) (c : Nat) : EB (w.setCell ⟨g, 0, none⟩ (.int .u32 (c : Int))) g c b := by
  unfold EB
  rw [heap_setCell_same w g 0 _ _ _ h]
  rfl
theorem EB.set1 {w : World} {g a b : Nat} (h : EB w g a b) (c : Nat) : EB (w.setCell ⟨g, 1, none⟩ (.int .u32 (c : Int))) g a c := by
  unfold EB
  rw [heap_setCell_same w g 1 _ _ _ h]
  rfl
theorem EB.other {w : World} {g a b : Nat} (h : EB w g a b) (g' j : Nat) (v : Value) (hne : g ≠ g') : EB (w.setCell ⟨g', j, none⟩ v) g a b := by
  unfold EB
  rw [heap_setCell_other w ⟨g', j, none⟩ g v hne]
  exact h
theorem EB.tg {w : World} {g a b : Nat} (_ : EB w g a b) : ¬ Tg (.cells #[.int .u32 (a : Int), .int .u32 (b : Int)] 121 (0, 0)) := by
  rintro ⟨cur, ty, fr, e, h⟩
  injection e with _ e _
  subst e
  revert h
  decide
theorem Mk.eset {W : World} {r : Nat} {P : List VQ} {E : List EV} (h : Mk W r P E) {g a b : Nat} (hg : EB W g a b) (j : Nat) (v : Value) : Mk (W.setCell ⟨g, j, none⟩ v) r P E := Mk.other h g j v _ hg hg.tg
theorem step_appq {ops : Array Oper} {o : Oper} {a : Act} {K : Act → World → Prop} {Q : Exit → Act → World → Prop} {E : Prop} (w : World) (hgd : o.guard = none) (s x : Operand)
    (hop : o.op = .call { callee := .builtin .append, args := #[s, x], argTypes := #[32, 32] })
    {r : Nat} {Ap : Option Addr} {kp cp : Nat} {Ae : Option Addr} {ke ce : Nat} {Ps : List Qu} {Es : List Ed} (hM : Mi w r Ap kp cp Ae ke ce Ps Es) (hs : a.eval s = .slice Ap kp cp) (g : Nat) (q : Qu) (hx : a.eval x = .slice (some ⟨g, 0, none⟩) 1 1) (hc : Pdt w g q.x q.t q.a q.n q.c) (hq : Qm w (r + 1) q) (hlen : kp ≤ 1000)
    (h : ∀ A' c' w', Mi (w'.setCell ⟨r, 0, none⟩ (.slice A' (kp + 1) c')) r A' (kp + 1) c' Ae ke ce (Ps ++ [q]) Es → Ka r w (w'.setCell ⟨r, 0, none⟩ (.slice A' (kp + 1) c')) → w'.cell? ⟨r, 0, none⟩ = some (.slice Ap kp cp) → w'.frozen? ⟨r, 0, none⟩ = false → r < w'.heap.size → K (a.put o.dst (.slice A' (kp + 1) c')) w') :
    if Region.wanted o (yielded ops a.tmps) = true then Oper.wp Tryz.prog o a w K Q else E := by
  have hw : Region.wanted o (yielded ops a.tmps) = true := by simp [Region.wanted, hgd]
  rw [if_pos hw]
  have hlt := hM.lt
  obtain ⟨A', c', w', h1, h2, h3, h4⟩ := run_appq w (r + 1) o.type _ Ps hM.rp g q 1 hc (by rw [hM.lp]; omega) (by omega)
  have hk : Ps.length + 1 = kp + 1 := by rw [hM.lp]
  have hr := h3.block r hlt (fun e => by have := (World.ownsRow.lt hM.rp r e.symm).1; omega)
  obtain ⟨c0, _, f0⟩ := hM.cells
  rw [hk] at h1 h2
  unfold Oper.wp
  simp [execOp, hop, resolve, invoke, builtin, hs, hx, h1, Result.andThen]
  refine h A' c' w' (hM.addp hq h2 hk h3) (((Ka.refl r w).app (h4.mono (Nat.le_succ r)) h3 (fun g hg => ?_)).set 0 _) ((World.cell?_of_block hr).trans c0) ((World.frozen?_of_block hr).trans (f0 0)) (Nat.lt_of_lt_of_le hlt h3.size)
  obtain ⟨cur, hh⟩ := row_tag hM.rp g hg
  exact ⟨_, _, _, hh, .inl rfl⟩
theorem step_appe {ops : Array Oper} {o : Oper} {a : Act} {K : Act → World → Prop} {Q : Exit → Act → World → Prop} {E : Prop} (w : World) (hgd : o.guard = none) (s x : Operand)
    (hop : o.op = .call { callee := .builtin .append, args := #[s, x], argTypes := #[34, 34] })
    {r : Nat} {Ap : Option Addr} {kp cp : Nat} {Ae : Option Addr} {ke ce : Nat} {Ps : List Qu} {Es : List Ed} (hM : Mi w r Ap kp cp Ae ke ce Ps Es) (hs : a.eval s = .slice Ae ke ce) (g : Nat) (d : Ed) (hx : a.eval x = .slice (some ⟨g, 0, none⟩) 1 1) (hc : ∀ j u, (ecl d)[j]? = some u → w.cell? ⟨g, j, none⟩ = some u) (hq : Qm w (r + 1) d.g) (hlen : ke ≤ 1900000000)
    (h : ∀ A' c' w', Mi (w'.setCell ⟨r, 1, none⟩ (.slice A' (ke + 1) c')) r Ap kp cp A' (ke + 1) c' Ps (Es ++ [d]) → Ka r w w' → Ka r w (w'.setCell ⟨r, 1, none⟩ (.slice A' (ke + 1) c')) → w'.cell? ⟨r, 1, none⟩ = some (.slice Ae ke ce) → w'.frozen? ⟨r, 1, none⟩ = false → r < w'.heap.size → K (a.put o.dst (.slice A' (ke + 1) c')) w') :
    if Region.wanted o (yielded ops a.tmps) = true then Oper.wp Tryz.prog o a w K Q else E := by
  have hw : Region.wanted o (yielded ops a.tmps) = true := by simp [Region.wanted, hgd]
  rw [if_pos hw]
  have hlt := hM.lt
  obtain ⟨A', c', w', h1, h2, h3, h4⟩ := run_appe w (r + 1) o.type _ Es hM.re g d 1 hc (by rw [hM.le]; omega) (by omega)
  have hk : Es.length + 1 = ke + 1 := by rw [hM.le]
  have hr := h3.block r hlt (fun e => by have := (World.ownsRow.lt hM.re r e.symm).1; omega)
  obtain ⟨_, c0, f0⟩ := hM.cells
  rw [hk] at h1 h2
  unfold Oper.wp
  simp [execOp, hop, resolve, invoke, builtin, hs, hx, h1, Result.andThen]
  have hka : Ka r w w' := (Ka.refl r w).app (h4.mono (Nat.le_succ r)) h3 (fun g hg => by
    obtain ⟨cur, hh⟩ := row_tag hM.re g hg
    exact ⟨_, _, _, hh, .inr rfl⟩)
  exact h A' c' w' (hM.adde hq h2 hk h3) hka (hka.set 1 _) ((World.cell?_of_block hr).trans c0) ((World.frozen?_of_block hr).trans (f0 1)) (Nat.lt_of_lt_of_le hlt h3.size)
def PlR (r : Nat) (w : World) (q : Qu) (P : List VQ) (E : List EV) (e : Ending) (w' : World) : Prop := e = .returned (ev2 (2 ^ P.length) (2 ^ P.length)) ∧ Mk w' r (P ++ [vq q]) E ∧ Ka r w w'
set_option maxHeartbeats 4000000 in
theorem place_any (r : Nat) (q : Qu) (P : List VQ) (E : List EV) (w : World) (h : Mk w r P E) (hP : P.length ≤ 31) (hq : Qok w q) :
    Calls Tryz.prog 85 #[.pointer (some ⟨r, 0, none⟩), qv q] w fun e w' => PlR r w q P E e w' := by
  obtain ⟨Ap, kp, cp, Ae, ke, ce, Ps, Es, hM, rfl, rfl⟩ := h
  have hkp : (Ps.map vq).length = kp := by rw [List.length_map]; exact hM.lp
  obtain ⟨Z, hZ⟩ : ∃ Z, Ps.map vq = Z := ⟨_, rfl⟩
  rw [hZ] at hkp hP ⊢
  rw [hkp] at hP
  have hpw : 2 ^ kp ≤ 2 ^ 31 := Nat.pow_le_pow_right (by omega) hP
  have hsh : (2 : Int) ^ kp % 4294967296 = ((2 ^ kp : Nat) : Int) := by
    rw [Int.natCast_pow]
    have h1 : ((2 ^ kp : Nat) : Int) ≤ 2147483648 := by omega
    rw [Int.natCast_pow] at h1
    have h2 : (0 : Int) ≤ 2 ^ kp := Int.pow_nonneg (by omega)
    exact Int.emod_eq_of_lt h2 (by have : ((2 : Nat) : Int) = 2 := rfl; rw [this] at h1; omega)
  obtain ⟨X, hX⟩ : ∃ X : Nat, 2 ^ kp = X := ⟨_, rfl⟩
  rw [hX] at hsh hpw
  have HX := Lib.hid hX
  clear hX
  obtain ⟨x, t, a, n, c, L⟩ := q
  obtain ⟨w1, hw1⟩ : ∃ X, (w.alloc (pcells x t a n c)).alloc (.cells #[.int .u32 0, .int .u32 0] 121) = X := ⟨_, rfl⟩
  have b1 : Below w.heap.size w w1 := hw1 ▸ below_go (below_alloc w _) (below_alloc _ _)
  have P0 : Pdb w1 w.heap.size x t a n c := hw1 ▸ (Pdb.alloc w x t a n c).next (below_alloc _ _)
  have E0 : EB w1 (w.heap.size + 1) 0 0 := by rw [← hw1, ← World.size_alloc w (pcells x t a n c)]; exact EB.alloc (w.alloc (pcells x t a n c)) 0 0
  have M1 := Lib.hid (hM.same (fun y o hy _ => by rw [b1.block y (Array.getElem?_eq_some_iff.1 hy).1]; exact hy))
  have OW := Lib.hid (fun W (hW : Below w1.heap.size w1 W) => own_any ⟨x, t, a, n, c, L⟩ W ((hq.below b1).below hW))
  have HKP := Lib.hid hkp
  have HZ := Lib.hid hZ
  have B1 := Lib.hid b1
  have PP := Lib.hid P0
  have EE := Lib.hid E0
  obtain ⟨c0, c1, c2⟩ := P0.pdt
  obtain ⟨m0, m1, mf⟩ := M1.out.cells
  have mf0 := mf 0
  have zr := M1.out.lt
  have zr0 := hM.lt
  have ze := E0.lt
  clear hM hkp hZ b1 P0 E0 hq mf
  go_enter Tryz.func85, Tryz.ntmps85
  go_upto_region 1 with fail
  clear hw1
  go_wp2_with fail
  (try rw [hsh])
  go_region_law (first
    | (refine step_appq _ (by rfl) (.tmp 16) (.tmp 19) (by rfl) M4.out (by rfl) _ ⟨ox, ot, oa, on, oc, oL⟩ (by rfl) (Pdt.alloc w2 ox ot oa on oc) Q4.out (by omega) ?_; intro A5 c5 w5 hM5 hK5 d0 df dz; have M5 := Lib.hid hM5; have K5 := Lib.hid (KA4.out.trans hK5); have E5 := Lib.hid (EE.out.ka (KB4.out.trans hK5) (by omega)); clear hM5 hK5)
    | (go_simp; go_at_call 114; refine (OW.out _ (below_drewN _ _ 1)).mono ?_; rintro e w2 ⟨⟨ox, ot, oa, on, oc, oL⟩, rfl, hv, hq2, hb⟩; have hD := (below_drewN w1.heap.size w1 1).trans hb; have m02 := (hD.cell (p := ⟨r, 0, none⟩) zr).trans m0; have zr2 := Nat.lt_of_lt_of_le zr hD.size; have hD4 := below_go hD (below_alloc w2 (pcells ox ot oa on oc)); have M4 := Lib.hid (M1.out.same (fun y o hy _ => by rw [hD4.block y (Array.getElem?_eq_some_iff.1 hy).1]; exact hy)); have Q4 := Lib.hid ((hq2.below (below_alloc w2 (pcells ox ot oa on oc))).mono (B' := r + 1) (by show r + 1 ≤ w1.heap.size; omega)); have KA4 := Lib.hid ((Ka.of_below (r := r) B1.out (by omega)).next hD4 (by omega)); have KB4 := Lib.hid (Ka.of_below (r := r) hD4 (by omega)); have HV := Lib.hid hv; clear hb hq2 hv hD hD4))
  all_goals (
    clear M4 Q4 KA4 KB4 c0 c1 c2 m0 m1 mf0 d0 df dz OW PP m02 zr2
    generalize w5.setCell ⟨r, 0, none⟩ (.slice A5 (kp + 1) c5) = w6 at M5 K5 E5 ⊢
    obtain ⟨e0, e1, ef⟩ := E5.out.cells
    have f0 := ef 0
    have f1 := ef 1
    have z6 := E5.out.lt
    clear ef
    have MF := Lib.hid (Mk.eset (Mk.eset (⟨A5, kp + 1, c5, Ae, ke, ce, _, Es, M5.out, rfl, rfl⟩ : Mk w6 r _ _) E5.out 0 (.int .u32 (X : Int))) (E5.out.set0 X) 1 (.int .u32 (X : Int)))
    have KF := Lib.hid ((K5.out.loc (w.heap.size + 1) 0 (.int .u32 (X : Int)) (by omega) (by omega)).loc (w.heap.size + 1) 1 (.int .u32 (X : Int)) (by omega) (by omega))
    clear M5 K5 E5
    go_wp2_with fail
    refine bodyPost_ret (v := ev2 X X) (by simp [results, Tryz.results85, go_sem, *]) rfl ⟨by rw [HKP.out, HX.out], ?_, KF.out⟩
    have := MF.out
    rw [List.map_append, HZ.out] at this
    simpa [HV.out] using this)
end Go.Proofs.YtpnllbojifnopaaGreatDoor
