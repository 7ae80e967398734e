/- The engine in memory; the edges from places, and the places edges lead to. -/
import Derived.Test.YtpnllbojifnopaaGreatDoorYACV
import Derived.Laws.BitsAllLaws
namespace Go.Proofs.YtpnllbojifnopaaGreatDoor
open Go Go.RowKit Pk Rl
set_option maxRecDepth 20000
structure En where
  Ap : Option Addr
  kp : Nat
  cp : Nat
  a : Nat
  b : Nat
  Ae : Option Addr
  ke : Nat
  ce : Nat
  win : Nat
  next : Nat
  last : Nat
  fl : Bool
  fat : Nat
  Ar : Option Addr
  nr : Nat
  cr : Nat
abbrev enobj (e : En) : Obj := .cells #[.slice e.Ap e.kp e.cp, .int .u32 (e.a : Int), .int .u32 (e.b : Int), .slice e.Ae e.ke e.ce, .int .u64 (e.win : Int), .int .u64 (e.next : Int), .int .u64 (e.last : Int), .bool e.fl, .int .u64 (e.fat : Int), .slice e.Ar e.nr e.cr] 153
structure Eg (W : World) (d : Nat) (Ap : Option Addr) (kp cp a b : Nat) (Ae : Option Addr) (ke ce win : Nat) (Ps : List Qu) (Es : List Ed) : Prop where
  c0 : W.cell? ⟨d, 0, none⟩ = some (.slice Ap kp cp)
  c1 : W.cell? ⟨d, 1, none⟩ = some (.int .u32 (a : Int))
  c2 : W.cell? ⟨d, 2, none⟩ = some (.int .u32 (b : Int))
  c3 : W.cell? ⟨d, 3, none⟩ = some (.slice Ae ke ce)
  c4 : W.cell? ⟨d, 4, none⟩ = some (.int .u64 (win : Int))
  cr : Cr W Ap kp Ae ke Ps Es
  kp : kp ≤ 32
  ke : ke ≤ 64
  a : a < 4294967296
  b : b < 4294967296
  ef : ∀ x ∈ Es, x.f < 32 ∧ x.t < 32
theorem Eg.below {W W' : World} {d : Nat} {Ap : Option Addr} {kp cp a b : Nat} {Ae : Option Addr} {ke ce win : Nat} {Ps : List Qu} {Es : List Ed} (h : Eg W d Ap kp cp a b Ae ke ce win Ps Es) (hb : Below W.heap.size W W') : Eg W' d Ap kp cp a b Ae ke ce win Ps Es := by
  have k : ∀ {j v}, W.cell? ⟨d, j, none⟩ = some v → W'.cell? ⟨d, j, none⟩ = some v := fun hc => (hb.cell (World.block_lt_of_cell? _ _ hc)).trans hc
  exact ⟨k h.c0, k h.c1, k h.c2, k h.c3, k h.c4, h.cr.below hb, h.kp, h.ke, h.a, h.b, h.ef⟩
theorem sbt_le64 (b : Nat → Bool) (i : Nat) (h : i ≤ 64) : sbt b i < 18446744073709551616 := Nat.lt_of_lt_of_le (sbt_lt b i) (Nat.pow_le_pow_right (by omega) h)
theorem pow64 (i : Nat) (h : i < 64) : 2 ^ i < 18446744073709551616 := Nat.lt_of_lt_of_le (Nat.pow_lt_pow_right (by omega) h) (by decide)
theorem pow32 (i : Nat) (h : i < 32) : 2 ^ i < 4294967296 := Nat.lt_of_lt_of_le (Nat.pow_lt_pow_right (by omega) h) (by decide)
theorem sbt_or (b : Nat → Bool) (i : Nat) : sbt b i ||| 2 ^ i = sbt b i + 2 ^ i := by
  rw [Nat.or_comm, Nat.add_comm]
  exact nat_join i (2 ^ i) (sbt b i) (Nat.mod_self _) (sbt_lt b i)
theorem u32_bit (x i : Nat) (h : x < 4294967296) : bits .and .u32 ((x : Int) / 2 ^ i) 1 = if x.testBit i = true then 1 else 0 := by
  have e : (x : Int) / 2 ^ i = ((x / 2 ^ i : Nat) : Int) := by simp
  have e1 : ((1 : Int)) = ((1 : Nat) : Int) := rfl
  rw [e, e1, u32_and_nat _ _ (Nat.lt_of_le_of_lt (Nat.div_le_self _ _) h) (by omega), Nat.and_one_is_mod, Nat.testBit_eq_decide_div_mod_eq]
  have := Nat.mod_lt (x / 2 ^ i) (by omega : 2 > 0)
  by_cases c : x / 2 ^ i % 2 = 1
  · rw [c]; rfl
  · rw [show x / 2 ^ i % 2 = 0 by omega]; rfl
theorem u64_bit (x i : Nat) (h : x < 18446744073709551616) : bits .and .u64 ((x : Int) / 2 ^ i) 1 = if x.testBit i = true then 1 else 0 := by
  have e : (x : Int) / 2 ^ i = ((x / 2 ^ i : Nat) : Int) := by simp
  have e1 : ((1 : Int)) = ((1 : Nat) : Int) := rfl
  rw [e, e1, u64_and_nat _ _ (Nat.lt_of_le_of_lt (Nat.div_le_self _ _) h) (by omega), Nat.and_one_is_mod, Nat.testBit_eq_decide_div_mod_eq]
  have := Nat.mod_lt (x / 2 ^ i) (by omega : 2 > 0)
  by_cases c : x / 2 ^ i % 2 = 1
  · rw [c]; rfl
  · rw [show x / 2 ^ i % 2 = 0 by omega]; rfl
theorem orW64 (x i : Nat) (h : x < 18446744073709551616) (hi : i < 64) : bits .or .u64 (x : Int) (IntKind.u64.wrap (2 ^ i)) = ((x ||| 2 ^ i : Nat) : Int) := by
  have h2 := pow64 i hi
  have e : IntKind.u64.wrap ((2 : Int) ^ i) = ((2 ^ i : Nat) : Int) := by rw [IntKind.wrap_u64, show ((2 : Int) ^ i) = ((2 ^ i : Nat) : Int) by simp]; generalize 2 ^ i = z at h2 ⊢; omega
  rw [e, u64_or_nat _ _ h h2]
theorem orW32 (x i : Nat) (h : x < 4294967296) (hi : i < 32) : bits .or .u32 (x : Int) ((2 : Int) ^ i % 4294967296) = ((x ||| 2 ^ i : Nat) : Int) := by
  have h2 := pow32 i hi
  have e : ((2 : Int) ^ i) % 4294967296 = ((2 ^ i : Nat) : Int) := by rw [show ((2 : Int) ^ i) = ((2 ^ i : Nat) : Int) by simp]; generalize 2 ^ i = z at h2 ⊢; omega
  rw [e, u32_or_nat _ _ h h2]
def frs (Es : List Ed) (p : Nat) : Nat := sbt (fun i => p.testBit (Es.getD i ed0').f) Es.length
structure Fw (w W : World) (d : Nat) (Ap : Option Addr) (kp cp a b : Nat) (Ae : Option Addr) (ke ce win : Nat) (Ps : List Qu) (Es : List Ed) : Prop where
  g : Eg W d Ap kp cp a b Ae ke ce win Ps Es
  bel : Below w.heap.size w W
theorem Fw.next {w W W' : World} {d : Nat} {Ap : Option Addr} {kp cp a b : Nat} {Ae : Option Addr} {ke ce win : Nat} {Ps : List Qu} {Es : List Ed} (h : Fw w W d Ap kp cp a b Ae ke ce win Ps Es) (hb : Below W.heap.size W W') : Fw w W' d Ap kp cp a b Ae ke ce win Ps Es := ⟨h.g.below hb, below_go h.bel hb⟩
abbrev eobr (d : Ed) : Obj := .cells #[.int .u8 (d.f : Int), .int .u8 (d.t : Int), .bool d.y, .bool d.g.x, .int .u8 d.g.t, .slice d.g.a d.g.n d.g.c] 47
theorem ebox_cells (W : World) (g : Nat) (d : Ed) (h : W.heap[g]? = some (eobr d)) : W.cell? ⟨g, 0, none⟩ = some (.int .u8 (d.f : Int)) ∧ W.cell? ⟨g, 1, none⟩ = some (.int .u8 (d.t : Int)) ∧ W.cell? ⟨g, 2, none⟩ = some (.bool d.y) ∧ W.cell? ⟨g, 3, none⟩ = some (.bool d.g.x) ∧ W.cell? ⟨g, 4, none⟩ = some (.int .u8 d.g.t) ∧ W.cell? ⟨g, 5, none⟩ = some (.slice d.g.a d.g.n d.g.c) := by
  refine ⟨?_, ?_, ?_, ?_, ?_, ?_⟩ <;> (rw [cell_of_row W g _ _ _ _ h]; rfl)
theorem ed_mem {Es : List Ed} {i : Nat} (h : i < Es.length) : Es.getD i ed0' ∈ Es := by
  rw [List.getD_eq_getElem?_getD, List.getElem?_eq_getElem h]; exact List.getElem_mem h
set_option maxHeartbeats 4000000 in
theorem from_any (d : Nat) (Ap : Option Addr) (kp cp a b : Nat) (Ae : Option Addr) (ke ce win : Nat) (Ps : List Qu) (Es : List Ed) (p : Nat) (w : World) (hp : p < 4294967296) (h : Eg w d Ap kp cp a b Ae ke ce win Ps Es) :
    Calls Tryz.prog 100 #[.pointer (some ⟨d, 0, none⟩), .int .u32 (p : Int)] w fun e w' => e = .returned (.int .u64 (frs Es p : Int)) ∧ Below w.heap.size w w' := by
  have K0 := Lib.hid (show Fw w w d Ap kp cp a b Ae ke ce win Ps Es from ⟨h, Below.refl _ _⟩)
  have c3 := h.c3
  have hke := h.ke
  have LE := Lib.hid h.cr.le
  have le : Es.length = ke := h.cr.le
  have EF := Lib.hid h.ef
  obtain ⟨B, hB⟩ : ∃ B : Nat → Bool, (fun i => p.testBit (Es.getD i ed0').f) = B := ⟨_, rfl⟩
  have HB := Lib.hid hB
  have RS : frs Es p = sbt B ke := by unfold frs; rw [hB, le]
  rw [RS]
  clear h hB RS le
  go_enter Tryz.func100, Tryz.ntmps100
  go_wp2_with fail
  go_loopw [5, 14] (fun v5 v14 W => ∃ (i : Nat), v5 = .int .u64 ((sbt B i : Nat) : Int) ∧ v14 = .int .i64 (i : Int) ∧ i ≤ ke ∧ Hid (Fw w W d Ap kp cp a b Ae ke ce win Ps Es)) (fun _ v14 _ => ke - (intOf v14).toNat)
  case atStart => exact ⟨0, rfl, rfl, by omega, Lib.hid K0.out⟩
  case round =>
    obtain ⟨i, rfl, rfl, hi, H⟩ := hrel
    clear c3
    by_cases ci : i < ke
    · have hl : i < Es.length := by have := LE.out; omega
      obtain ⟨g, rfl, e0, e1, e2, e3, e4, e5⟩ := H.out.g.cr.re i hl
      have hEF := EF.out _ (ed_mem hl)
      have HBi := Lib.hid (congrFun HB.out i)
      obtain ⟨x, hx⟩ : ∃ x, Es.getD i ed0' = x := ⟨_, rfl⟩
      rw [hx] at e0 e1 e2 e3 e4 e5 hEF
      simp only [hx] at HBi
      obtain ⟨xf, xt, xy, ⟨gx, gt, ga, gn, gc, gL⟩⟩ := x
      have BX := Lib.hid (heap_alloc_new wr (eobr ⟨xf, xt, xy, ⟨gx, gt, ga, gn, gc, gL⟩⟩))
      have HX := Lib.hid (H.out.next (below_alloc wr (eobr ⟨xf, xt, xy, ⟨gx, gt, ga, gn, gc, gL⟩⟩)))
      simp only at e0 e1 e2 e3 e4 e5 hEF HBi
      obtain ⟨hf, ht⟩ := hEF
      clear H hx
      go_upto_region 5 with fail
      generalize wr.alloc (eobr ⟨xf, xt, xy, ⟨gx, gt, ga, gn, gc, gL⟩⟩) = w2 at BX HX ⊢
      generalize wr.heap.size = gb at BX ⊢
      obtain ⟨b0, b1, b2, b3, b4, b5⟩ := ebox_cells _ _ _ BX.out
      clear e0 e1 e2 e3 e4 e5 b1 b2 b3 b4 b5
      have hB1 := u32_bit p xf hp
      rw [HBi.out] at hB1
      cases hb : B i
      · rw [hb] at hB1
        have hB2 : (bits BinOp.and IntKind.u32 ((p : Int) / 2 ^ xf) 1 == 1) = false := by rw [hB1]; rfl
        have SB := Lib.hid (show sbt B (i + 1) = sbt B i by rw [sbt_step, hb]; simp)
        clear hB1 hb
        go_wp2_with fail
        exact ⟨⟨i + 1, by rw [SB.out], by go_num, by omega, Lib.hid HX.out⟩, by simp [intOf]; omega⟩
      · rw [hb] at hB1
        have hB2 : (bits BinOp.and IntKind.u32 ((p : Int) / 2 ^ xf) 1 == 1) = true := by rw [hB1]; rfl
        have SB := Lib.hid (show sbt B (i + 1) = sbt B i ||| 2 ^ i by rw [sbt_or, sbt_step, hb]; simp)
        clear hB1 hb
        go_wp2_with fail
        exact ⟨⟨i + 1, by rw [SB.out, orW64 _ _ (sbt_le64 B i (by omega)) (by omega)], by go_num, by omega, Lib.hid HX.out⟩, by simp [intOf]; omega⟩
    · obtain rfl : i = ke := by omega
      have KX := Lib.hid H.out.bel
      go_wp2_with fail
      go_ret
      exact ⟨rfl, KX.out⟩
def onp (Es : List Ed) (x : Nat) : Nat → Nat
  | 0 => 0
  | i + 1 => if x.testBit i = true then onp Es x i ||| 2 ^ (Es.getD i ed0').t else onp Es x i
def ont (Es : List Ed) (x : Nat) : Nat := onp Es x Es.length
theorem onp_lt (Es : List Ed) (x : Nat) (h : ∀ e ∈ Es, e.f < 32 ∧ e.t < 32) : ∀ i, i ≤ Es.length → onp Es x i < 4294967296 := by
  intro i
  induction i with
  | zero => intro _; exact (by decide : (0 : Nat) < 4294967296)
  | succ i ih =>
    intro hi
    have h1 := ih (by omega)
    have h2 := (h _ (ed_mem (show i < Es.length by omega))).2
    show (if _ then _ else _) < _
    split
    · exact Nat.or_lt_two_pow (n := 32) h1 (pow32 _ h2)
    · exact h1
set_option maxHeartbeats 4000000 in
theorem onto_any (d : Nat) (Ap : Option Addr) (kp cp a b : Nat) (Ae : Option Addr) (ke ce win : Nat) (Ps : List Qu) (Es : List Ed) (x : Nat) (w : World) (hx : x < 18446744073709551616) (h : Eg w d Ap kp cp a b Ae ke ce win Ps Es) :
    Calls Tryz.prog 102 #[.pointer (some ⟨d, 0, none⟩), .int .u64 (x : Int)] w fun e w' => e = .returned (.int .u32 (ont Es x : Int)) ∧ Below w.heap.size w w' := by
  have K0 := Lib.hid (show Fw w w d Ap kp cp a b Ae ke ce win Ps Es from ⟨h, Below.refl _ _⟩)
  have c3 := h.c3
  have hke := h.ke
  have LE := Lib.hid h.cr.le
  have le : Es.length = ke := h.cr.le
  have EF := Lib.hid h.ef
  have OL := Lib.hid (onp_lt Es x h.ef)
  have RS : ont Es x = onp Es x ke := by unfold ont; rw [le]
  rw [RS]
  clear h RS le
  go_enter Tryz.func102, Tryz.ntmps102
  go_wp2_with fail
  go_loopw [5, 14] (fun v5 v14 W => ∃ (i : Nat), v5 = .int .u32 ((onp Es x i : Nat) : Int) ∧ v14 = .int .i64 (i : Int) ∧ i ≤ ke ∧ Hid (Fw w W d Ap kp cp a b Ae ke ce win Ps Es)) (fun _ v14 _ => ke - (intOf v14).toNat)
  case atStart => exact ⟨0, rfl, rfl, by omega, Lib.hid K0.out⟩
  case round =>
    obtain ⟨i, rfl, rfl, hi, H⟩ := hrel
    clear c3
    by_cases ci : i < ke
    · have hl : i < Es.length := by have := LE.out; omega
      obtain ⟨g, rfl, e0, e1, e2, e3, e4, e5⟩ := H.out.g.cr.re i hl
      have hEF := EF.out _ (ed_mem hl)
      have OI := Lib.hid (show onp Es x (i + 1) = if x.testBit i = true then onp Es x i ||| 2 ^ (Es.getD i ed0').t else onp Es x i from rfl)
      obtain ⟨v, hv⟩ : ∃ v, Es.getD i ed0' = v := ⟨_, rfl⟩
      rw [hv] at e0 e1 e2 e3 e4 e5 hEF OI
      obtain ⟨xf, xt, xy, ⟨gx, gt, ga, gn, gc, gL⟩⟩ := v
      have BX := Lib.hid (heap_alloc_new wr (eobr ⟨xf, xt, xy, ⟨gx, gt, ga, gn, gc, gL⟩⟩))
      have HX := Lib.hid (H.out.next (below_alloc wr (eobr ⟨xf, xt, xy, ⟨gx, gt, ga, gn, gc, gL⟩⟩)))
      simp only at e0 e1 e2 e3 e4 e5 hEF OI
      obtain ⟨hf, ht⟩ := hEF
      clear H hv
      go_upto_region 5 with fail
      generalize wr.alloc (eobr ⟨xf, xt, xy, ⟨gx, gt, ga, gn, gc, gL⟩⟩) = w2 at BX HX ⊢
      generalize wr.heap.size = gb at BX ⊢
      obtain ⟨b0, b1, b2, b3, b4, b5⟩ := ebox_cells _ _ _ BX.out
      simp only at b1
      clear e0 e1 e2 e3 e4 e5 b0 b2 b3 b4 b5
      have hB1 := u64_bit x i hx
      cases hb : x.testBit i
      · rw [hb] at hB1 OI
        have hB2 : (bits BinOp.and IntKind.u64 ((x : Int) / 2 ^ i) 1 == 1) = false := by rw [hB1]; rfl
        clear hB1 hb
        go_wp2_with fail
        exact ⟨⟨i + 1, by rw [OI.out]; rfl, by go_num, by omega, Lib.hid HX.out⟩, by simp [intOf]; omega⟩
      · rw [hb] at hB1 OI
        have hB2 : (bits BinOp.and IntKind.u64 ((x : Int) / 2 ^ i) 1 == 1) = true := by rw [hB1]; rfl
        clear hB1 hb
        go_wp2_with fail
        exact ⟨⟨i + 1, by rw [OI.out, if_pos rfl, orW32 _ _ (OL.out i (by omega)) ht], by go_num, by omega, Lib.hid HX.out⟩, by simp [intOf]; omega⟩
    · obtain rfl : i = ke := by omega
      have KX := Lib.hid H.out.bel
      go_wp2_with fail
      go_ret
      exact ⟨rfl, KX.out⟩
end Go.Proofs.YtpnllbojifnopaaGreatDoor
