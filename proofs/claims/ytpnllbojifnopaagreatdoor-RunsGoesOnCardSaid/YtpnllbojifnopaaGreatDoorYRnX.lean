/- Restore of a state that may be. -/
import Derived.Test.YtpnllbojifnopaaGreatDoorYRnT
import Derived.Test.YtpnllbojifnopaaGreatDoorYRnP
namespace Go.Proofs.YtpnllbojifnopaaGreatDoor
open Go Go.RowKit Go.Maps Pk Rl
set_option maxRecDepth 20000
def Okn (next last win ke : Nat) (fl : Bool) (fat : Nat) (R : List Ru) : Prop := (fl = false ∧ fat = 0 ∧ Rgd next last win ke R) ∨ (fl = true ∧ fat < next ∧ R = [])
set_option maxHeartbeats 8000000 in
theorem may_yes (d win : Nat) (Ae : Option Addr) (ke ce next last : Nat) (fl : Bool) (fat : Nat) (A : Option Addr) (n c : Nat) (R : List Ru) (w : World) (h3 : w.cell? ⟨d, 3, none⟩ = some (.slice Ae ke ce)) (h4 : w.cell? ⟨d, 4, none⟩ = some (.int .u64 (win : Int))) (hr : Rus w A R) (hn : R.length = n) (hm : n ≤ 64) (hke : ke ≤ 64) (hnx : next ≤ 1099511627776) (hl : last ≤ 1099511627776)
    (ho : Okn next last win ke fl fat R) : Calls Tryz.prog 73 #[.pointer (some ⟨d, 0, none⟩), stv next last fl fat A n c] w fun en w' => en = .returned (.bool true) ∧ Below w.heap.size w w' := by
  have X0 : Hid (Sy w (w.alloc (.cells #[.int .u64 (next : Int), .int .u64 (last : Int), .bool fl, .int .u64 (fat : Int), .slice A n c] 91)) d win Ae ke ce next last fl fat A n c R) := Lib.hid (by
    have n1 := below_alloc w (sto next last fl fat A n c)
    have k : ∀ {p v}, w.cell? p = some v → (w.alloc (sto next last fl fat A n c)).cell? p = some v := fun hc => (n1.cell (World.block_lt_of_cell? _ _ hc)).trans hc
    exact ⟨k h3, k h4, heap_alloc_new w _, hr.below n1, n1⟩)
  have MR := Lib.hid (fun W (h : Sy w W d win Ae ke ce next last fl fat A n c R) (hg : Rgd next last win ke R) => mayruns_yes d win Ae ke ce next last fl fat A n c R W h.c3 h.c4 h.r hn (by omega) hke hl hg)
  have d1 : decide ((1099511627776 : Int) < (next : Int)) = false := decide_eq_false (by omega)
  have d1' : decide (1099511627776 < next) = false := decide_eq_false (by omega)
  have d2 : decide ((1099511627776 : Int) < (last : Int)) = false := decide_eq_false (by omega)
  have d2' : decide (1099511627776 < last) = false := decide_eq_false (by omega)
  have HN := Lib.hid hn
  have HO := Lib.hid ho
  clear h3 h4 hr hn ho
  go_enter Tryz.func73, Tryz.ntmps73
  go_upto_region 1 with fail
  generalize (w.alloc (.cells #[.int .u64 (next : Int), .int .u64 (last : Int), .bool fl, .int .u64 (fat : Int), .slice A n c] 91)) = w1 at X0 ⊢
  obtain ⟨b0, b1, b2, b3, b4, _⟩ := sto_cells X0.out.b
  rcases HO.out with ⟨rfl, rfl, hg⟩ | ⟨rfl, hf, hR⟩
  · have M1 := Lib.hid (MR.out w1 X0.out hg)
    have d3 : decide ((n : Int) ≤ 64) = true := decide_eq_true (by omega)
    have d3' : decide (n ≤ 64) = true := decide_eq_true hm
    have d4 : (((0 : Nat) : Int) == 0) = true := by simp
    clear HO MR hg
    go_wp2_with fail
    refine M1.out.mono ?_
    rintro e w2 ⟨rfl, hb⟩
    have B2 := Lib.hid (X0.out.next hb).bel
    clear hb X0 M1
    go_wp2_with fail
    go_ret
    exact ⟨rfl, B2.out⟩
  · subst hR
    obtain rfl : n = 0 := HN.out.symm
    have d3 : decide ((fat : Int) < (next : Int)) = true := decide_eq_true (by omega)
    have d3' : decide (fat < next) = true := decide_eq_true hf
    have d4 : (((0 : Nat) : Int) == 0) = true := by simp
    clear HO MR
    go_wp2_with fail
    go_ret
    exact ⟨by first | rfl | simp, X0.out.bel⟩
abbrev enset (W : World) (d next last : Nat) (fl : Bool) (fat : Nat) (A : Option Addr) (n c : Nat) : World := ((((W.setCell ⟨d, 5, none⟩ (.int .u64 (next : Int))).setCell ⟨d, 6, none⟩ (.int .u64 (last : Int))).setCell ⟨d, 7, none⟩ (.bool fl)).setCell ⟨d, 8, none⟩ (.int .u64 (fat : Int))).setCell ⟨d, 9, none⟩ (.slice A n c)
theorem EnB.set {W : World} {d : Nat} {e : En} (h : EnB W d e) (next last : Nat) (fl : Bool) (fat : Nat) (A : Option Addr) (n c : Nat) : EnB (enset W d next last fl fat A n c) d { e with next := next, last := last, fl := fl, fat := fat, Ar := A, nr := n, cr := c } := by
  have h1 := heap_setCell_same W d 5 _ _ (.int .u64 (next : Int)) h
  have h2 := heap_setCell_same _ d 6 _ _ (.int .u64 (last : Int)) h1
  have h3 := heap_setCell_same _ d 7 _ _ (.bool fl) h2
  have h4 := heap_setCell_same _ d 8 _ _ (.int .u64 (fat : Int)) h3
  have h5 := heap_setCell_same _ d 9 _ _ (.slice A n c) h4
  unfold EnB
  rw [h5]
  rfl
theorem keep_set {w W : World} {d : Nat} (h : Keep (· = d) w W) (next last : Nat) (fl : Bool) (fat : Nat) (A : Option Addr) (n c : Nat) : Keep (· = d) w (enset W d next last fl fat A n c) := keep_cell (keep_cell (keep_cell (keep_cell (keep_cell h _ _) _ _) _ _) _ _) _ _
def RsX (L : List Nd) (win next last : Nat) (fl : Bool) (fat : Nat) (R : List Ru) (w : World) (en : Ending) (w' : World) : Prop :=
  ∃ d e Ps Es, en = .returned (.tuple #[.pointer (some ⟨d, 0, none⟩), .int .i64 0]) ∧ w.heap.size ≤ d ∧ Hid (Ez w' d e Ps Es R) ∧ Hid (Ps.map vq = (cov L (win : Int)).P ∧ Es.map ve = (cov L (win : Int)).E ∧ e.a = (cov L (win : Int)).a ∧ e.b = (cov L (win : Int)).b ∧ e.win = win ∧ e.next = next ∧ e.last = last ∧ e.fl = fl ∧ e.fat = fat) ∧ Below w.heap.size w w'
set_option maxHeartbeats 16000000 in
theorem restore_yes (A : Option Addr) (n c : Nat) (L : List Nd) (win next last : Nat) (fl : Bool) (fat : Nat) (Ar : Option Addr) (nr cr : Nat) (R : List Ru) (w : World) (hP : Pt w A n c L) (hT : Tab w) (hT5 : Tab5 w) (hw : win < 18446744073709551616) (hm : (cov L (win : Int)).m = 0)
    (hr : Rus w Ar R) (hn : R.length = nr) (hf : nr ≤ 64) (hx : Rok last R) (hnx : next ≤ 1099511627776) (hl : last ≤ 1099511627776) (ho : Okn next last win (cov L (win : Int)).E.length fl fat R) :
    Calls Tryz.prog 38 #[ptv A n c (win : Int), stv next last fl fat Ar nr cr] w fun en w' => RsX L win next last fl fat R w en w' := by
  have n1 := below_alloc w (ptobj A n c (win : Int))
  have n2 := below_alloc (w.alloc (ptobj A n c (win : Int))) (sto next last fl fat Ar nr cr)
  have e2 := heap_alloc_new (w.alloc (ptobj A n c (win : Int))) (sto next last fl fat Ar nr cr)
  have n12 := below_go n1 n2
  simp only [World.size_alloc] at n2 e2
  have PB := Lib.hid ((PtB.alloc w A n c (win : Int)).below n2 (by omega))
  have SB : Hid (((w.alloc (.cells #[.slice A n c, .int .u64 (win : Int)] 28)).alloc (.cells #[.int .u64 (next : Int), .int .u64 (last : Int), .bool fl, .int .u64 (fat : Int), .slice Ar nr cr] 91)).heap[w.heap.size + 1]? = some (sto next last fl fat Ar nr cr)) := Lib.hid e2
  have NB := Lib.hid n12
  have CC := Lib.hid (cv_any A n c L (win : Int) ((w.alloc (ptobj A n c (win : Int))).alloc (sto next last fl fat Ar nr cr)) (hP.below n12) (hT.below n12) (hT5.below n12))
  have RR := Lib.hid (hr.below n12)
  have HN := Lib.hid (And.intro hn (And.intro hf (And.intro hx (And.intro hnx hl))))
  have HO := Lib.hid ho
  have HW := Lib.hid hw
  have CF := Lib.hid (And.intro (cov_few (L := L) (win := (win : Int))) (cov_nums hm))
  obtain ⟨V, hV⟩ : ∃ V, cov L (win : Int) = V := ⟨_, rfl⟩
  rw [hV] at CC HO CF hm
  have HV := Lib.hid hV
  clear hP hT hT5 n1 n2 e2 n12 hr hn hf hx hnx hl ho hw hV
  go_enter Tryz.func38, Tryz.ntmps38
  go_upto_region 1 with fail
  generalize ((w.alloc (.cells #[.slice A n c, .int .u64 (win : Int)] 28)).alloc (.cells #[.int .u64 (next : Int), .int .u64 (last : Int), .bool fl, .int .u64 (fat : Int), .slice Ar nr cr] 91)) = w1 at PB SB NB CC RR ⊢
  have k0 := PB.out.c0
  have k1 := PB.out.c1
  go_wp2_with fail
  refine CC.out.mono ?_
  rintro e w2 ⟨Ap, kp, cp, Ae, ke, ce, Ps, Es, B, rfl, HC, hb⟩
  obtain ⟨Vm, Va, Vb, VP, VE⟩ := V
  simp only at HC HO CF hm ⊢
  subst hm
  have P2 := Lib.hid (PB.out.next hb)
  have S2 := Lib.hid ((hb.block _ (Array.getElem?_eq_some_iff.1 SB.out).1).trans SB.out)
  have B2 := Lib.hid (below_go NB.out hb)
  have R2 := Lib.hid (RR.out.below hb)
  have CR := Lib.hid HC.out.1
  have MP := Lib.hid (And.intro HC.out.2.1 HC.out.2.2.1)
  clear hb HC CC PB k0 k1 NB SB RR
  go_upto_region 2 with fail
  have n3 := below_alloc w2 (.cells #[.slice Ap kp cp, .int .u32 (Va : Int), .int .u32 (Vb : Int), .slice Ae ke ce] 36)
  have P3 := Lib.hid (P2.out.next n3)
  have S3 := Lib.hid ((n3.block _ (Array.getElem?_eq_some_iff.1 S2.out).1).trans S2.out)
  have B3 := Lib.hid (below_go B2.out n3)
  have R3 := Lib.hid (R2.out.below n3)
  have C3 := Lib.hid (CR.out.below n3)
  have A3 : Hid (AB (w2.alloc (.cells #[.slice Ap kp cp, .int .u32 (Va : Int), .int .u32 (Vb : Int), .slice Ae ke ce] 36)) w2.heap.size Ap kp cp Va Vb Ae ke ce) := Lib.hid (heap_alloc_new w2 _)
  clear n3 P2 B2 CR S2 R2
  generalize w2.alloc (.cells #[.slice Ap kp cp, .int .u32 (Va : Int), .int .u32 (Vb : Int), .slice Ae ke ce] 36) = w3 at P3 S3 B3 R3 C3 A3 ⊢
  generalize w2.heap.size = g at A3 ⊢
  have k1 := P3.out.c1
  obtain ⟨a0, a1, a2, a3, _⟩ := A3.out.cells
  have n4 := below_alloc w3 (enobj ⟨Ap, kp, cp, Va, Vb, Ae, ke, ce, win, 0, 0, false, 0, none, 0, 0⟩)
  have E4 : Hid (EnB (w3.alloc (.cells #[.slice Ap kp cp, .int .u32 (Va : Int), .int .u32 (Vb : Int), .slice Ae ke ce, .int .u64 (win : Int), .int .u64 0, .int .u64 0, .bool false, .int .u64 0, .slice none 0 0] 153)) w3.heap.size ⟨Ap, kp, cp, Va, Vb, Ae, ke, ce, win, 0, 0, false, 0, none, 0, 0⟩) := Lib.hid (heap_alloc_new w3 _)
  have B4 := Lib.hid (below_go B3.out n4)
  have S4 := Lib.hid ((n4.block _ (Array.getElem?_eq_some_iff.1 S3.out).1).trans S3.out)
  have R4 := Lib.hid (R3.out.below n4)
  have C4 := Lib.hid (C3.out.below n4)
  have DW := Lib.hid B3.out.size
  clear n4
  go_upto_region 5 with fail
  generalize (w3.alloc (.cells #[.slice Ap kp cp, .int .u32 (Va : Int), .int .u32 (Vb : Int), .slice Ae ke ce, .int .u64 (win : Int), .int .u64 0, .int .u64 0, .bool false, .int .u64 0, .slice none 0 0] 153)) = w4 at E4 B4 S4 R4 C4 ⊢
  generalize w3.heap.size = d at E4 DW ⊢
  have KE := Lib.hid (show VE.length = ke ∧ VP.length = kp by
    have h1 := MP.out.1
    have h2 := MP.out.2
    exact ⟨by rw [← h2, List.length_map]; exact C4.out.le, by rw [← h1, List.length_map]; exact C4.out.lp⟩)
  rw [KE.out.1] at HO
  obtain ⟨_, _, _, c3, c4, _, _, _, _, _, _⟩ := E4.out.cells
  have MY := Lib.hid (may_yes d win Ae ke ce next last fl fat Ar nr cr R w4 c3 c4 R4.out HN.out.1 HN.out.2.1 (by have := CF.out.1.2; have := KE.out.1; omega) HN.out.2.2.2.1 HN.out.2.2.2.2 HO.out)
  obtain ⟨b0, b1, b2, b3, b4, _⟩ := sto_cells S4.out
  clear c3 c4 k1 a0 a1 a2 a3
  go_wp2_with fail
  refine MY.out.mono ?_
  rintro e w5 ⟨rfl, hb⟩
  have E5 := Lib.hid (E4.out.below hb)
  have B5 := Lib.hid (below_go B4.out hb)
  have S5 := Lib.hid ((hb.block _ (Array.getElem?_eq_some_iff.1 S4.out).1).trans S4.out)
  have R5 := Lib.hid (R4.out.below hb)
  have C5 := Lib.hid (C4.out.below hb)
  clear hb MY E4 B4 S4 R4 C4 b0 b1 b2 b3 b4 P3 S3 B3 R3 C3 A3
  obtain ⟨b0, b1, b2, b3, b4, _⟩ := sto_cells S5.out
  have OW := Lib.hid (rown_any next last fl fat Ar nr cr R w5 R5.out HN.out.1 (by have := HN.out.2.1; omega))
  go_wp2_with fail
  refine OW.out.mono ?_
  rintro e w6 ⟨A6, c6, rfl, ho, hb⟩
  have E6 := Lib.hid (E5.out.below hb)
  have B6 := Lib.hid (below_go B5.out hb)
  have C6 := Lib.hid (C5.out.below hb)
  have O6 := Lib.hid ho.out
  clear hb ho OW E5 B5 S5 R5 C5 b0 b1 b2 b3 b4
  have KS := Lib.hid (keep_set (Keep.refl (· = d) w6) next last fl fat A6 R.length c6)
  have ES := Lib.hid (E6.out.set next last fl fat A6 R.length c6)
  have EZ : Hid (Ez (enset w6 d next last fl fat A6 R.length c6) d ⟨Ap, kp, cp, Va, Vb, Ae, ke, ce, win, next, last, fl, fat, A6, R.length, c6⟩ Ps Es R) := Lib.hid
    ⟨⟨B, C6.out.keep KS.out E6.out⟩, ⟨_, row_keep O6.out KS.out E6.out (by decide)⟩, ES.out, by show kp ≤ 32; have := CF.out.1.1; have := KE.out.2; omega, by show ke ≤ 64; have := CF.out.1.2; have := KE.out.1; omega, CF.out.2.1, CF.out.2.2.1, HW.out, fun x hx => CF.out.2.2.2 (ve x) (by have h2 := MP.out.2; rw [← h2]; exact List.mem_map_of_mem hx), HN.out.2.2.2.1, HN.out.2.2.2.2, rfl, by show R.length ≤ 64; have := HN.out.1; have := HN.out.2.1; omega, HN.out.2.2.1⟩
  have BE := Lib.hid (keep_bel B6.out DW.out KS.out)
  obtain ⟨c0, c1, c2, c3, c4, c5, c6', c7, c8, c9, cf⟩ := E6.out.cells
  have g5 := cf 5
  have g6 := cf 6
  have g7 := cf 7
  have g8 := cf 8
  have g9 := cf 9
  clear cf KS ES E6 B6 C6 O6 CF KE
  go_wp2_with fail
  show bodyPost _ _ _ _ _ (enset w6 d next last fl fat A6 R.length c6)
  exact bodyPost_ret (results_tmp2 rfl _ _ _) rfl ⟨d, _, Ps, Es, rfl, DW.out, EZ.out |> Lib.hid, Lib.hid (by rw [HV.out]; exact ⟨MP.out.1, MP.out.2, rfl, rfl, rfl, rfl, rfl, rfl, rfl⟩), BE.out⟩
end Go.Proofs.YtpnllbojifnopaaGreatDoor
