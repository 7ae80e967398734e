/- Contracts, joined: DnQ, DnT, DnL. -/
import Derived.Test.YtccjflioaajgiaaGreatDoorMG
import Derived.Test.YtccjflioaajgiaaGreatDoorDnLay
import Derived.Test.YtccjflioaajgiaaGreatDoorMB
import Derived.Deep.RegionHeld3
import Derived.LoopN
import Derived.Shelf.SlSortCmp.NoneTotal
import Derived.Test.YtccjflioaajgiaaGreatDoorDnS
import Derived.Test.YtccjflioaajgiaaGreatDoorMJ
/- How two matches are held against each other. -/
namespace Go.Proofs.YtccjflioaajgiaaGreatDoor
open Go Go.RowKit
open Go.Sort (grow)
set_option maxRecDepth 20000

def cfo (x y : Int) : Int := if x = 0 then y else x
set_option maxHeartbeats 1000000 in
theorem or_any (b : Nat) (x y : Int) (w : World) (h0 : w.cell? ⟨b, 0, none⟩ = some (.int .i64 x)) (h1 : w.cell? ⟨b, 1, none⟩ = some (.int .i64 y)) :
    Calls Tryz.prog 54 #[.slice (some ⟨b, 0, none⟩) 2 2] w fun e w' => e = .returned (.int .i64 (cfo x y)) ∧ w' = w := by
  by_cases hx : x = 0
  · have E := Lib.hid (show cfo x y = y from if_pos hx)
    subst hx
    by_cases hy : y = 0
    · subst hy
      go_enter Tryz.func54, Tryz.ntmps54
      go_wp2
      refine wp_loop_rounds 3 ?_
      rw [rounds_succ]
      go_wp2
      rw [rounds_succ]
      go_wp2
      rw [rounds_succ]
      go_wp2
      go_ret
      exact ⟨by rw [E.out]; rfl, rfl⟩
    · have e1 : (y != 0) = true := by simpa using hy
      go_enter Tryz.func54, Tryz.ntmps54
      go_wp2
      refine wp_loop_rounds 3 ?_
      rw [rounds_succ]
      go_wp2
      rw [rounds_succ]
      go_wp2
      go_ret
      exact ⟨by rw [E.out]; rfl, rfl⟩
  · have E := Lib.hid (show cfo x y = x from if_neg hx)
    have e1 : (x != 0) = true := by simpa using hx
    go_enter Tryz.func54, Tryz.ntmps54
    go_wp2
    refine wp_loop_rounds 3 ?_
    rw [rounds_succ]
    go_wp2
    go_ret
    exact ⟨by rw [E.out]; rfl, rfl⟩
/- what it loads; the world has grown -/
def Gw (w W : World) : Prop := ∃ q os, W = grow (w.drewN q) os
theorem Gw.alloc {w W : World} (h : Gw w W) (o : Obj) : Gw w (W.alloc o) := by
  obtain ⟨q, os, rfl⟩ := h
  exact ⟨q, os ++ #[o], by rw [Go.Sort.alloc_eq_grow, Go.Sort.grow_grow]⟩
theorem Gw.drew {w W : World} (h : Gw w W) : Gw w W.drew := by
  obtain ⟨q, os, rfl⟩ := h
  exact ⟨q + 1, os, rfl⟩
theorem Gw.refl (w : World) : Gw w w := ⟨0, #[], by rw [Go.Sort.grow_empty]; rfl⟩
def cfM (x y : Nat × Nat) : Int := cfo (c3 x.2 y.2) (c3 x.1 y.1)
def enM (x : Nat × Nat) : List Value := [.int .u64 (x.1 : Int), .int .u64 (x.2 : Int)]
abbrev Ko (w W : World) (h a1 a2 b1 b2 : Nat) : Prop := W.cell? ⟨h, 0, none⟩ = some (.int .u64 (a1 : Int)) ∧ W.cell? ⟨h, 1, none⟩ = some (.int .u64 (a2 : Int)) ∧ W.cell? ⟨h + 1, 0, none⟩ = some (.int .u64 (b1 : Int)) ∧ W.cell? ⟨h + 1, 1, none⟩ = some (.int .u64 (b2 : Int)) ∧ Hid (Gw w W)
theorem ko_alloc {w W : World} {h a1 a2 b1 b2 : Nat} (o : Obj) (K : Ko w W h a1 a2 b1 b2) : Ko w (W.alloc o) h a1 a2 b1 b2 := by
  have k := Ck.of_below (bal W o)
  exact ⟨k _ _ _ K.1, k _ _ _ K.2.1, k _ _ _ K.2.2.1, k _ _ _ K.2.2.2.1, Lib.hid (K.2.2.2.2.out.alloc o)⟩
set_option maxHeartbeats 4000000 in
theorem inOrder_any (x y : Nat × Nat) (w : World) :
    Calls Tryz.prog 32 #[.agg #[.int .u64 (x.1 : Int), .int .u64 (x.2 : Int)], .agg #[.int .u64 (y.1 : Int), .int .u64 (y.2 : Int)]] w fun e w' => e = .returned (.int .i64 (cfM x y)) ∧ ∃ q os, w' = grow (w.drewN q) os := by
  obtain ⟨a1, a2⟩ := x
  obtain ⟨b1, b2⟩ := y
  have C := Lib.hid (fun (p q : Nat) W => cmpU_any p q W)
  have O := Lib.hid (fun (p q : Int) (X : World) => or_any X.heap.size p q (X.alloc (.cells #[.int .i64 p, .int .i64 q] 3)).drew (by simp [go_sem]) (by simp [go_sem]))
  obtain ⟨w2, hw2⟩ : ∃ W, (w.alloc (.cells #[.int .u64 (a1 : Int), .int .u64 (a2 : Int)] 46)).alloc (.cells #[.int .u64 (b1 : Int), .int .u64 (b2 : Int)] 46) = W := ⟨_, rfl⟩
  have K2 : Ko w w2 w.heap.size a1 a2 b1 b2 := by
    rw [← hw2]
    exact ⟨by simp [go_sem], by simp [go_sem], by simp [go_sem], by simp [go_sem], Lib.hid (((Gw.refl w).alloc _).alloc _)⟩
  have KD : Hid (Ko w w2.drew w.heap.size a1 a2 b1 b2) := Lib.hid ⟨K2.1, K2.2.1, K2.2.2.1, K2.2.2.2.1, Lib.hid K2.2.2.2.2.out.drew⟩
  have KD2 : Hid (∀ o, Ko w (w2.alloc o).drew w.heap.size a1 a2 b1 b2) := Lib.hid (fun o => by
    have K3 := ko_alloc o K2
    exact ⟨K3.1, K3.2.1, K3.2.2.1, K3.2.2.2.1, Lib.hid K3.2.2.2.2.out.drew⟩)
  show Calls _ _ _ _ fun e w' => e = .returned (.int .i64 (cfo (c3 a2 b2) (c3 a1 b1))) ∧ _
  go_enter Tryz.func32, Tryz.ntmps32
  go_wp2_with fail
  go_region_held3 (fun X => X.cell? ⟨w.heap.size, 0, none⟩ = some (.int .u64 (a1 : Int)) ∧ X.cell? ⟨w.heap.size, 1, none⟩ = some (.int .u64 (a2 : Int)) ∧ X.cell? ⟨w.heap.size + 1, 0, none⟩ = some (.int .u64 (b1 : Int)) ∧ X.cell? ⟨w.heap.size + 1, 1, none⟩ = some (.int .u64 (b2 : Int)) ∧ Hid (Gw w X))
    (first | (with_reducible assumption) | (with_reducible exact KD.out) | (with_reducible exact KD2.out _))
    (first
      | (go_at_call 55; refine Calls.mono (C.out _ _ _) ?_; rintro e w3 ⟨rfl, rfl⟩)
      | (go_at_call 54; refine Calls.mono (O.out _ _ _) ?_; rintro e w4 ⟨rfl, rfl⟩))
  rename_i hHeld
  have G := Lib.hid hHeld.2.2.2.2.out
  clear hHeld
  go_wp2_with fail
  go_ret
  exact ⟨rfl, G.out⟩
end Go.Proofs.YtccjflioaajgiaaGreatDoor

/- Rows of matches in memory; sorted. -/
namespace Go.Proofs.YtccjflioaajgiaaGreatDoor
open Go Go.RowKit Go.Maps
open Go.Sort (grow)
open Go.Lib Go.Sort Go.Shelf
set_option maxRecDepth 20000

abbrev Mt := Nat × Nat
abbrev gm (L : List Mt) (i : Nat) : Mt := L.getD i (0, 0)
def Mrs (w : World) (A : Option Addr) (L : List Mt) : Prop := ∀ i, i < L.length → ∃ b off, A = some ⟨b, off, none⟩ ∧ w.cell? ⟨b, off + i * 2, none⟩ = some (.int .u64 ((gm L i).1 : Int)) ∧ w.cell? ⟨b, off + i * 2 + 1, none⟩ = some (.int .u64 ((gm L i).2 : Int))
theorem Mrs.nil (w : World) (A : Option Addr) : Mrs w A [] := fun i hi => absurd hi (by simp)
theorem Mrs.ck {w w' : World} {A : Option Addr} {L : List Mt} (h : Mrs w A L) (k : Ck w w') : Mrs w' A L := fun i hi => by
  obtain ⟨b, off, e, h1, h2⟩ := h i hi
  exact ⟨b, off, e, k _ _ _ h1, k _ _ _ h2⟩
def srt (L : List Mt) : List Mt := L.mergeSort fun x y => !(ltOf cfM) y x
theorem srt_len (L : List Mt) : (srt L).length = L.length := List.length_mergeSort ..
theorem ltM (x y : Mt) : ltOf cfM x y = decide (x.2 < y.2 ∨ x.2 = y.2 ∧ x.1 < y.1) := by
  obtain ⟨a1, a2⟩ := x
  obtain ⟨b1, b2⟩ := y
  show decide (cfo (c3 a2 b2) (c3 a1 b1) < 0) = _
  unfold cfo c3
  congr 1
  apply propext
  simp only
  repeat' split
  all_goals omega
theorem swoM : SWO (ltOf cfM) where
  irrefl x := by rw [ltM]; simp
  trans x y z h1 h2 := by rw [ltM] at *; simp only [decide_eq_true_eq] at *; omega
  ntrans x y z h1 h2 := by rw [ltM] at *; simp only [decide_eq_false_iff_not] at *; omega
theorem holdsM {w : World} {b : Nat} {L : List Mt} (h : Mrs w (some ⟨b, 0, none⟩) L) (hf : ∀ j, w.frozen? ⟨b, j, none⟩ = false) : HoldsK enM 2 w b 0 L.toArray := by
  intro j hj
  rw [size_flatK] at hj
  rw [get_flatK _ _ _ _ hj, hf]
  refine ⟨?_, rfl⟩
  have hi : j / 2 < L.length := by simp at hj; omega
  obtain ⟨b', off', e, h1, h2⟩ := h (j / 2) hi
  injection e with e
  injection e with e1 e2
  subst e1 e2
  have eg : L.toArray[j / 2]! = gm L (j / 2) := by simp [gm, List.getD_eq_getElem?_getD, hi]
  rw [eg]
  rcases Nat.mod_two_eq_zero_or_one j with h0 | h0
  · rw [h0, show (0 + j : Nat) = 0 + j / 2 * 2 by omega, h1]; rfl
  · rw [h0, show (0 + j : Nat) = 0 + j / 2 * 2 + 1 by omega, h2]; rfl
theorem mrs_of {w : World} {b : Nat} {L : List Mt} (h : HoldsK enM 2 w b 0 L.toArray) : Mrs w (some ⟨b, 0, none⟩) L := fun i hi => by
  have eg : L.toArray[i]! = gm L i := by simp [gm, List.getD_eq_getElem?_getD, hi]
  have hs : i < L.toArray.size := by simpa using hi
  have h1 := (HoldsK.cell h (i := i) (c := 0) hs (by omega)).1
  have h2 := (HoldsK.cell h (i := i) (c := 1) hs (by omega)).1
  rw [eg] at h1 h2
  refine ⟨b, 0, rfl, ?_, ?_⟩
  · simpa [enM] using h1
  · simpa [enM] using h2
theorem keep_sort (w : World) (b n : Nat) (d : Array Mt) (os : Array Obj) : Keep (· = b) w (sortWorldK enM 2 w b 0 n d os) := by
  refine ⟨rfl, rfl, rfl, size_sortWorldK_c enM 2 w b 0 n d os, fun k hk hn => ?_⟩
  unfold sortWorldK grow putRowK putRow mapBlock
  simp only
  have hs : k < ((Sort.ahead w n).heap.modify b (onCells (putCells id 0 (flatK enM 2 d)))).size := by simpa [Sort.ahead] using hk
  rw [Array.getElem?_append_left hs, Array.getElem?_modify, if_neg (fun e => hn e.symm)]
  rfl
set_option maxHeartbeats 1000000 in
theorem sortM_any (b c : Nat) (L : List Mt) (w : World) (h : Mrs w (some ⟨b, 0, none⟩) L) (hf : ∀ j, w.frozen? ⟨b, j, none⟩ = false) (hb : b < w.heap.size) (hs : L.length ≤ 1000000) :
    Calls Tryz.prog 31 #[.slice (some ⟨b, 0, none⟩) L.length c, .func (.func 32) #[] #[]] w fun e w' => e = .returned (.tuple #[]) ∧ Mrs w' (some ⟨b, 0, none⟩) (srt L) ∧ Keep (· = b) w w' := by
  have eg : ∀ args w, (callFunc 32 args).run Tryz.prog w = .ok (.enter 32 args) w := enters_of Tryz.func32 (by kernel_rfl) rfl
  have hH := holdsM h hf
  have hcon := AnyQ.slices_SortFunc_total Tryz.sort 2 Tryz.isAgg46 Tryz.sizeOf46 enM (fun _ => rfl) (fun x v hv => by simp [enM] at hv; rcases hv with rfl | rfl <;> rfl) cfM swoM 32 #[] b 0 c L.toArray w eg
    (fun _ _ _ _ x y => inOrder_any x y _) hH hb (by simp; omega) (fun x y h1 h2 => by
      rw [ltM] at h1 h2
      simp only [decide_eq_false_iff_not] at h1 h2
      obtain ⟨x1, x2⟩ := x
      obtain ⟨y1, y2⟩ := y
      simp only at h1 h2
      have e1 : x1 = y1 := by omega
      have e2 : x2 = y2 := by omega
      rw [e1, e2])
  change Calls Tryz.prog 31 _ _ _ at hcon
  rw [List.size_toArray] at hcon
  refine hcon.mono ?_
  rintro e w' ⟨rfl, n, os, rfl⟩
  refine ⟨rfl, ?_, keep_sort w b n _ os⟩
  exact mrs_of (holdsK_sortWorldK_c enM 2 w b 0 L.toArray _ n os hH hb (by simp))
theorem sortM_nil (w : World) : Calls Tryz.prog 31 #[.slice none 0 0, .func (.func 32) #[] #[]] w fun e w' => e = .returned (.tuple #[]) ∧ w' = w := by
  have := AnyF.slices_SortFunc_none Tryz.sort none 0 (.func (.func 32) #[] #[]) w
  exact this
end Go.Proofs.YtccjflioaajgiaaGreatDoor

/- Which rows may be: the program's May. -/
namespace Go.Proofs.YtccjflioaajgiaaGreatDoor
open Go Go.RowKit Go.Maps Pk Rl
set_option maxRecDepth 20000

def dm : Nat → List Lg → Bool
  | _, [] => true
  | last, x :: r => decide (last ≤ x.at_) && (decide (x.at_ ≤ 1099511627776) && (emay x.E && dm x.at_ r))
theorem ldrop_cons (R : List Lg) (k : Nat) (h : k < R.length) : R.drop k = R.getD k lz :: R.drop (k + 1) := by
  rw [List.drop_eq_getElem_cons h, List.getD_eq_getElem?_getD, List.getElem?_eq_getElem h]; rfl
theorem dm_all {last : Nat} {R : List Lg} (h : dm last R = true) : (∀ j, j < R.length → last ≤ lat R j ∧ lat R j ≤ 1099511627776) ∧ Rise R := by
  induction R generalizing last with
  | nil => exact ⟨fun j hj => absurd hj (by simp), fun a b _ hb => absurd hb (by simp)⟩
  | cons x r ih =>
    unfold dm at h
    simp only [Bool.and_eq_true, decide_eq_true_eq] at h
    obtain ⟨h1, h2, _, h4⟩ := h
    obtain ⟨a, b⟩ := ih h4
    have e : ∀ j, lat (x :: r) (j + 1) = lat r j := fun j => by simp [lat]
    have e0 : lat (x :: r) 0 = x.at_ := by simp [lat]
    constructor
    · intro j hj
      cases j with
      | zero => rw [e0]; exact ⟨h1, h2⟩
      | succ j =>
        rw [e]
        have := a j (by simpa using hj)
        omega
    · intro p q hpq hq
      cases q with
      | zero => obtain rfl : p = 0 := by omega
                exact Nat.le_refl _
      | succ q =>
        rw [e]
        have hq' : q < r.length := by simpa using hq
        cases p with
        | zero => rw [e0]; exact (a q hq').1
        | succ p => rw [e]; exact b p q (by omega) hq'
set_option maxHeartbeats 4000000 in
theorem dmay_any (rA : Option Addr) (rN rC : Nat) (R : List Lg) (w : World) (hR : Lr w rA R) (hn : R.length = rN) (hm : rN ≤ 1000) :
    Calls Tryz.prog 16 #[.slice rA rN rC] w fun e w' => e = .returned (.bool (dm 0 R)) ∧ Below w.heap.size w w' := by
  have HR := Lib.hid hR
  have HN := Lib.hid hn
  clear hR hn
  go_enter Tryz.func16, Tryz.ntmps16
  go_wp2_with fail
  go_loopw [3, 8] (fun lv t W => ∃ (k last : Nat), k ≤ rN ∧ lv = .int .u64 (last : Int) ∧ t = .int .i64 (k : Int) ∧ Hid (last < 18446744073709551616 ∧ dm last (R.drop k) = dm 0 R ∧ Below w.heap.size w W)) (fun _ t _ => rN - (intOf t).toNat)
  case atStart => exact ⟨0, 0, Nat.zero_le _, rfl, rfl, Lib.hid ⟨by omega, by rw [List.drop_zero], Below.refl _ _⟩⟩
  case round =>
    obtain ⟨k, last, hk, rfl, rfl, H⟩ := hrel
    by_cases hlt : k < rN
    · obtain ⟨b, off, rfl, f0, f1, f2, f3, f4⟩ := (HR.out.row k (by rw [HN.out]; exact hlt))
      have ck := Ck.of_below H.out.2.2
      have g0 := ck _ _ _ f0
      have g1 := ck _ _ _ f1
      have g2 := ck _ _ _ f2
      have g3 := ck _ _ _ f3
      have g4 := ck _ _ _ f4
      have OK := Lib.hid (HR.out.ok _ (lgetD_mem R k (by rw [HN.out]; exact hlt)))
      have DC := Lib.hid (ldrop_cons R k (by rw [HN.out]; exact hlt))
      generalize R.getD k lz = x at g0 g1 g2 g3 g4 OK DC
      have hx64 := OK.out.at64
      have hl64 := H.out.1
      have DE : Hid (dm last (R.drop k) = (decide (last ≤ x.at_) && (decide (x.at_ ≤ 1099511627776) && (emay x.E && dm x.at_ (R.drop (k + 1)))))) := Lib.hid (by rw [DC.out]; rfl)
      have E0 := Lib.hid H.out.2.1
      have BW := Lib.hid H.out.2.2
      have EM := Lib.hid (fun W (hW : Below w.heap.size w W) => emay_any x.t x.a x.n x.c x.E W OK.out.len OK.out.few (OK.out.row.below hW) OK.out.ok)
      have BX := Lib.hid (BW.out.trans ((bal wr (lobj x)).mono BW.out.size))
      clear f0 f1 f2 f3 f4 ck H
      by_cases c1 : x.at_ < last
      · have R0 : Hid (dm 0 R = false) := Lib.hid (by rw [← E0.out, DE.out]; simp; omega)
        go_wp2_with fail
        go_ret
        exact ⟨by rw [R0.out]; rfl, BX.out⟩
      by_cases c2 : 1099511627776 < x.at_
      · have R0 : Hid (dm 0 R = false) := Lib.hid (by rw [← E0.out, DE.out]; simp; omega)
        go_wp2_with fail
        go_ret
        exact ⟨by rw [R0.out]; rfl, BX.out⟩
      have D2 : Hid (dm last (R.drop k) = (emay x.E && dm x.at_ (R.drop (k + 1)))) := Lib.hid (by
        rw [DE.out, decide_eq_true (by omega : last ≤ x.at_), decide_eq_true (by omega : x.at_ ≤ 1099511627776)]; rfl)
      generalize emay x.E = em at D2 EM
      have A5 : Hid (Atl (wr.alloc (lobj x)) wr.heap.size 0 x) := Lib.hid (by refine ⟨?_, ?_, ?_, ?_, ?_⟩ <;> simp [go_sem])
      go_wp2_with fail
      refine (EM.out _ BX.out).mono ?_
      rintro e w3 ⟨rfl, hb⟩
      have B3 := Lib.hid (BX.out.trans (hb.mono BX.out.size))
      have z2 := Ck.of_below hb _ _ _ A5.out.2.2.1
      simp only [Nat.zero_add] at z2
      clear hb EM
      cases em
      · have R0 : Hid (dm 0 R = false) := Lib.hid (by rw [← E0.out, D2.out]; rfl)
        go_wp2_with fail
        go_ret
        exact ⟨by rw [R0.out]; rfl, B3.out⟩
      · have D3 : Hid (dm x.at_ (R.drop (k + 1)) = dm 0 R) := Lib.hid (by rw [← E0.out, D2.out]; rfl)
        go_wp2_with fail
        exact ⟨⟨k + 1, x.at_, by omega, rfl, by go_num, Lib.hid ⟨hx64, D3.out, B3.out⟩⟩, by simp [intOf]; omega⟩
    · obtain rfl : k = rN := by omega
      have R0 : Hid (dm 0 R = true) := Lib.hid (by rw [← H.out.2.1, List.drop_of_length_le (by rw [HN.out]; exact Nat.le_refl _)]; rfl)
      go_wp2_with fail
      go_ret
      exact ⟨by rw [R0.out]; rfl, H.out.2.2⟩
end Go.Proofs.YtccjflioaajgiaaGreatDoor
