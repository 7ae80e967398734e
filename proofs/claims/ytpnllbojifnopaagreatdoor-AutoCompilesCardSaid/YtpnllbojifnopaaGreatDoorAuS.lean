/- Edges sorted. -/
import Derived.Test.YtpnllbojifnopaaGreatDoorAuQ
namespace Go.Proofs.YtpnllbojifnopaaGreatDoor
open Go Go.RowKit Pk Rl
open Go.Lib Go.Sort Go.Shelf
set_option maxRecDepth 20000

abbrev ed0 : Ed := ⟨0, 0, false, qz⟩
instance : Inhabited Ed := ⟨ed0⟩
theorem ecls_get (D : List Ed) (i : Nat) (hi : i < D.length) (j : Nat) (hj : j < 6) : (D.flatMap ecl)[i * 6 + j]? = (ecl (D.getD i ed0))[j]? := by
  induction D generalizing i with
  | nil => simp at hi
  | cons v D ih =>
    rw [List.flatMap_cons]
    rcases i with _ | i
    · rw [List.getElem?_append_left (by show 0 * 6 + j < 6; omega), Nat.zero_mul, Nat.zero_add]
      rfl
    · rw [List.getElem?_append_right (by show 6 ≤ (i + 1) * 6 + j; omega), show (i + 1) * 6 + j - (ecl v).length = i * 6 + j by show (i + 1) * 6 + j - 6 = _; omega, ih i (by simpa using hi), List.getD_cons_succ]
theorem ltE (x y : Ed) : ltOf cfE x y = decide (x.f < y.f ∨ x.f = y.f ∧ x.t < y.t) := by
  show decide (cfo (c3 x.f y.f) (c3 x.t y.t) < 0) = _
  unfold cfo c3
  congr 1
  apply propext
  repeat' split
  all_goals omega
theorem swoE : SWO (ltOf cfE) where
  irrefl x := by rw [ltE]; simp
  trans x y z h1 h2 := by rw [ltE] at *; simp only [decide_eq_true_eq] at *; omega
  ntrans x y z h1 h2 := by rw [ltE] at *; simp only [decide_eq_false_iff_not] at *; omega
theorem holdsE {w : World} {B b c : Nat} {L : List Ed} (h : OwnE w B (.slice (some ⟨b, 0, none⟩) L.length c) L) : HoldsK ecl 6 w b 0 L.toArray := by
  rcases h.2 with ⟨e, _⟩ | ⟨g, cap, cur, e, _, hh, hcap, _, hsz, ht⟩
  · cases e
  · injection e with e _ _
    injection e with e
    injection e with e _ _
    subst e
    intro j hj
    rw [size_flatK] at hj
    rw [get_flatK _ _ _ _ hj]
    have hj2 : j < L.length * 6 := by simpa using hj
    have eg : L.toArray[j / 6]! = L.getD (j / 6) ed0 := by
      have : j / 6 < L.length := by omega
      simp [List.getD_eq_getElem?_getD, this]
    refine ⟨?_, ?_⟩
    · rw [Nat.zero_add, cell_of_row w b j _ _ _ hh, eg]
      have h1 := ecls_get L (j / 6) (by omega) (j % 6) (by omega)
      rw [show j / 6 * 6 + j % 6 = j by omega, ← ht, List.getElem?_take_of_lt (by omega), Array.getElem?_toList] at h1
      rw [h1]
      have hl : j % 6 < (ecl (L.getD (j / 6) ed0)).length := by show j % 6 < 6; omega
      rw [List.getElem?_eq_getElem hl]
      show _ = some ((ecl (L.getD (j / 6) ed0))[j % 6]!)
      rw [getElem!_pos (ecl (L.getD (j / 6) ed0)) (j % 6) hl]
    · simp [World.frozen?, hh]
theorem ownE_sorted {w : World} {B b c n : Nat} {L L' : List Ed} (os : Array Obj) (h : OwnE w B (.slice (some ⟨b, 0, none⟩) L.length c) L) (hl : L'.length = L.length) : OwnE (sortWorldK ecl 6 w b 0 n L'.toArray os) B (.slice (some ⟨b, 0, none⟩) L'.length c) L' := by
  refine ⟨by rw [ecls_len], ?_⟩
  rcases h.2 with ⟨e, _⟩ | ⟨g, cap, cur, e, hB, hh, hcap, hmx, hsz, ht⟩
  · cases e
  · injection e with e _ ec
    injection e with e
    injection e with e _ _
    subst e ec
    have hlt := (Array.getElem?_eq_some_iff.1 hh).1
    refine .inr ⟨b, c, putCells id 0 (flatK ecl 6 L'.toArray) cur, rfl, hB, ?_, by omega, hmx, by unfold putCells; rw [Array.size_mapIdx]; exact hsz, ?_⟩
    · unfold sortWorldK grow putRowK putRow mapBlock
      simp only
      have hs : b < ((Sort.ahead w n).heap.modify b (onCells (putCells id 0 (flatK ecl 6 L'.toArray)))).size := by simpa [Sort.ahead] using hlt
      rw [Array.getElem?_append_left hs, Array.getElem?_modify, if_pos rfl]
      show Option.map _ w.heap[b]? = _
      rw [hh]
      rfl
    · refine List.ext_getElem? fun j => ?_
      by_cases hj : j < L'.length * 6
      · rw [List.getElem?_take_of_lt hj, Array.getElem?_toList]
        have hjc : j < cur.size := by rw [hsz]; omega
        unfold putCells
        rw [Array.getElem?_mapIdx, Array.getElem?_eq_getElem hjc]
        have hc : 0 ≤ j ∧ j < 0 + (flatK ecl 6 L'.toArray).size := by rw [size_flatK]; simp; omega
        simp only [Option.map_some, if_pos hc, id_eq, Nat.sub_zero]
        rw [get_flatK _ _ _ _ (by simpa using hj)]
        have eg : L'.toArray[j / 6]! = L'.getD (j / 6) ed0 := by
          have : j / 6 < L'.length := by omega
          simp [List.getD_eq_getElem?_getD, this]
        have h1 := ecls_get L' (j / 6) (by omega) (j % 6) (by omega)
        rw [show j / 6 * 6 + j % 6 = j by omega] at h1
        rw [h1, eg]
        have hl : j % 6 < (ecl (L'.getD (j / 6) ed0)).length := by show j % 6 < 6; omega
        rw [List.getElem?_eq_getElem hl, getElem!_pos (ecl (L'.getD (j / 6) ed0)) (j % 6) hl]
      · rw [List.getElem?_eq_none (by rw [List.length_take]; omega), List.getElem?_eq_none (by rw [ecls_len]; omega)]
theorem ka_sort {r b n : Nat} {w : World} {d : Array Ed} {os : Array Obj} {cur : Array Value} (hb : r < b) (hh : w.heap[b]? = some (.cells cur 47 (0, 0))) : Ka r w (sortWorldK ecl 6 w b 0 n d os) ∧ ∀ x, x < w.heap.size → x ≠ b → (sortWorldK ecl 6 w b 0 n d os).heap[x]? = w.heap[x]? := by
  have key : ∀ x, x < w.heap.size → x ≠ b → (sortWorldK ecl 6 w b 0 n d os).heap[x]? = w.heap[x]? := fun x hx hn => by
    unfold sortWorldK grow putRowK putRow mapBlock
    simp only
    have hs : x < ((Sort.ahead w n).heap.modify b (onCells (putCells id 0 (flatK ecl 6 d)))).size := by simpa [Sort.ahead] using hx
    rw [Array.getElem?_append_left hs, Array.getElem?_modify, if_neg (fun e => hn e.symm)]
    rfl
  have hlt := (Array.getElem?_eq_some_iff.1 hh).1
  refine ⟨⟨⟨rfl, rfl, rfl, size_sortWorldK_c ecl 6 w b 0 n d os, fun x hx => key x (by omega) (by omega)⟩, fun x o hx _ hf => ?_⟩, key⟩
  rw [key x (Array.getElem?_eq_some_iff.1 hx).1 (fun e => ?_)]
  · exact hx
  · subst e
    rw [hh] at hx
    injection hx with hx
    exact (hf _ _ _ hx.symm).2 rfl
def Kyl (L : List Ed) : Prop := ∀ i j, i < j → j < L.length → ¬ ((L.getD j ed0).f < (L.getD i ed0).f ∨ (L.getD j ed0).f = (L.getD i ed0).f ∧ (L.getD j ed0).t < (L.getD i ed0).t)
def SoR (r : Nat) (Ap : Option Addr) (kp cp : Nat) (Ae : Option Addr) (ke ce : Nat) (Ps : List Qu) (Es : List Ed) (w : World) (e : Ending) (w' : World) : Prop :=
  (∃ v, e = .returned v) ∧ ∃ Es', Es'.Perm Es ∧ Kyl Es' ∧ Mi w' r Ap kp cp Ae ke ce Ps Es' ∧ Ka r w w'
set_option maxHeartbeats 1000000 in
theorem sortE_any (r : Nat) (Ap : Option Addr) (kp cp : Nat) (Ae : Option Addr) (ke ce : Nat) (Ps : List Qu) (Es : List Ed) (w : World) (h : Mi w r Ap kp cp Ae ke ce Ps Es) (hs : ke ≤ 1000000) :
    Calls Tryz.prog 45 #[.slice Ae ke ce, .func (.func 46) #[] #[]] w fun e w' => SoR r Ap kp cp Ae ke ce Ps Es w e w' := by
  rcases h.re.2 with ⟨e, h0⟩ | ⟨g, cap, cur, e, hB, hh, hcap, hmx, hsz, ht⟩
  · injection e with e1 e2 e3
    subst e1 e2 e3
    have hE : Es = [] := List.eq_nil_of_length_eq_zero h0
    subst hE
    refine (AnyF.slices_SortFunc_none Tryz.sort none 0 (.func (.func 46) #[] #[]) w).mono ?_
    rintro e w' ⟨rfl, rfl⟩
    exact ⟨⟨_, rfl⟩, [], List.Perm.refl _, fun i j _ hj => by simp at hj, h, Ka.refl _ _⟩
  · injection e with e1 e2 e3
    subst e1 e3
    have hl := h.le
    subst hl
    have eg : ∀ args w, (callFunc 46 args).run Tryz.prog w = .ok (.enter 46 args) w := enters_of Tryz.func46 (by kernel_rfl) rfl
    have hlt := (Array.getElem?_eq_some_iff.1 hh).1
    have hcon := AnyQ.slices_SortFunc Tryz.sort 6 Tryz.isAgg47 Tryz.sizeOf47 ecl (fun _ => rfl) (fun x v hv => by simp [ecl] at hv; rcases hv with rfl | rfl | rfl | rfl | rfl | rfl <;> rfl) cfE swoE 46 #[] g 0 ce Es.toArray w eg
      (fun _ _ _ _ x y => inOrder_any x y _) (holdsE h.re) hlt (by simp; omega)
    change Calls Tryz.prog 45 _ _ _ at hcon
    rw [List.size_toArray] at hcon
    refine hcon.mono ?_
    rintro e w' ⟨rfl, d', n, os, ⟨p1, _, p3⟩, hso, rfl⟩
    obtain ⟨L', rfl⟩ : ∃ L : List Ed, d' = L.toArray := ⟨d'.toList, rfl⟩
    have hl' : L'.length = Es.length := by simpa using p1
    have hperm : L'.Perm Es := by
      have p4 : (L'.take Es.length).Perm Es := by simpa using p3
      rwa [List.take_of_length_le (by omega)] at p4
    obtain ⟨hka, hoth⟩ := ka_sort (r := r) (n := n) (d := L'.toArray) (os := os) (by omega) hh
    have hsm : ∀ (x : Nat) (o : Obj), w.heap[x]? = some o → (∀ cur ty fr, o = .cells cur ty fr → ty ≠ 47) → (sortWorldK ecl 6 w g 0 n L'.toArray os).heap[x]? = some o := fun x o hx ho => by
      rw [hoth x (Array.getElem?_eq_some_iff.1 hx).1 (fun e => ?_)]
      · exact hx
      · subst e
        rw [hh] at hx
        injection hx with hx
        exact ho _ _ _ hx.symm rfl
    have tq : ∀ q, Qm w (r + 1) q → Qm (sortWorldK ecl 6 w g 0 n L'.toArray os) (r + 1) q := fun q hq => qm_same hq (fun x cur hx => hsm x _ hx (fun _ _ _ e => by injection e with _ e _; rw [← e]; decide))
    refine ⟨⟨_, rfl⟩, L', hperm, fun i j hij hj => ?_, ⟨hsm _ _ h.box (fun _ _ _ e => by injection e with _ e _; rw [← e]; decide), row_same h.rp (fun x cur _ hx => hsm x _ hx (fun _ _ _ e => by injection e with _ e _; rw [← e]; decide)), by have := ownE_sorted (n := n) os h.re hl'; rwa [hl'] at this, h.lp, hl', fun q hq => tq q (h.qp q hq), fun d hd => tq _ (h.qe d (hperm.mem_iff.1 hd))⟩, hka⟩
    have h2 := hso i j (Nat.zero_le _) hij (by omega)
    rw [ltE] at h2
    have e1 : L'.toArray[i]! = L'.getD i ed0 := by
      have : i < L'.length := by omega
      simp [List.getD_eq_getElem?_getD, this]
    have e2 : L'.toArray[j]! = L'.getD j ed0 := by simp [List.getD_eq_getElem?_getD, hj]
    rw [e1, e2] at h2
    simpa using h2
end Go.Proofs.YtpnllbojifnopaaGreatDoor
