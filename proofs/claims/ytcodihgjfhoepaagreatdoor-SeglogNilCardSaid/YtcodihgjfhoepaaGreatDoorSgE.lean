/- What a manifest tells. -/
import Derived.Test.YtcodihgjfhoepaaGreatDoorSgY
import Derived.Test.YtcodihgjfhoepaaGreatDoorLbGet
import Derived.Test.YtcodihgjfhoepaaGreatDoorRcD
namespace Go.Proofs.YtcodihgjfhoepaaGreatDoor
open Go Go.RowKit Crc Pk
set_option maxRecDepth 20000

theorem man_split (l : List Nat) (i : Nat) (hi : i < l.length) : man l = pre l i ++ (wrt (l.getD i 0) ++ ((l.drop (i + 1)).flatMap wrt)) := by
  unfold man pre
  rw [List.append_assoc, ← List.append_assoc ((l.take i).flatMap wrt)]
  congr 1
  have e : l = l.take i ++ (l.getD i 0 :: l.drop (i + 1)) := by
    rw [List.getD_eq_getElem?_getD, List.getElem?_eq_getElem hi, Option.getD_some, ← List.drop_eq_getElem_cons hi, List.take_append_drop]
  conv => lhs; rw [e]
  rw [List.flatMap_append, List.flatMap_cons, List.append_assoc]
theorem take_snocN (l : List Nat) (i : Nat) (hi : i < l.length) : l.take (i + 1) = l.take i ++ [l.getD i 0] := by
  rw [List.take_succ_eq_append_getElem hi, List.getD_eq_getElem?_getD, List.getElem?_eq_getElem hi, Option.getD_some]
theorem up_at {l : List Nat} (h : l.Pairwise (· < ·)) (i : Nat) (hi : i + 1 < l.length) : l.getD i 0 < l.getD (i + 1) 0 := by
  rw [List.getD_eq_getElem?_getD, List.getD_eq_getElem?_getD, List.getElem?_eq_getElem (by omega), List.getElem?_eq_getElem hi]
  exact List.pairwise_iff_getElem.1 h i (i + 1) (by omega) hi (by omega)
set_option maxHeartbeats 8000000 in
theorem told_any (w : World) (ht : Tb w) (A : Option Addr) (n c : Nat) (l : List Nat) (hl : (fr (man l)).length = n) (hb : Byt w A (fr (man l))) (hc : n ≤ c) (hz : A = none → c = 0) (h1 : 1 ≤ l.length) (h2 : l.length ≤ 1002) (hu : l.Pairwise (· < ·)) (hn : ∀ x ∈ l, x < 18446744073709551616) :
    Calls Tryz.prog 67 #[.slice A n c] w fun e w' => ∃ v, e = .returned (.tuple #[v, .bool true]) ∧ OwnU w' v l ∧ (∀ x, v.ownBlock = some x → w.heap.size ≤ x) ∧ Below w.heap.size w w' := by
  have hm := man_len l hn (by omega)
  have hln : n = 8 + (man l).length := by rw [← hl, fr_len]
  have G := Lib.hid (get_in A n c (fr (man l)) 0 w hl (by omega) hc (Nat.zero_le _) hb ht.crc)
  obtain ⟨f1, f2, f3, f4⟩ := fr_found (man l) [] (by omega)
  rw [List.append_nil] at f1 f2 f3
  rw [List.drop_zero] at G
  obtain ⟨q, hq⟩ : ∃ q, (man l).length = q := ⟨_, rfl⟩
  have QQ := Lib.hid hq
  rw [hq] at hln hm
  have GG : Hid (Calls Tryz.prog 101 #[.slice A n c, .int .i64 0] w fun e w' => ∃ A1 C1, e = .returned (.tuple #[.slice A1 q C1, .int .i64 (n : Int), .int .i64 0]) ∧ Own w' w.heap.size (.slice A1 q C1) (man l) ∧ Below w.heap.size w w') := Lib.hid (G.out.mono (by
    intro e w1 hg
    rcases hg with ⟨h, _⟩ | ⟨_, A1, C1, he, o1, b1⟩
    · exact absurd f2 h
    · rw [f1, hq] at o1 he
      rw [f3] at o1
      exact ⟨A1, C1, by rw [he, show ((0 + (8 + q) : Nat) : Int) = (n : Int) by omega], o1, b1⟩))
  have PA0 := Lib.hid (got [] (l.flatMap wrt) l.length (by omega) (man l) rfl 0 rfl)
  have PAi := Lib.hid (fun i (hi : i < l.length) => got (pre l i) ((l.drop (i + 1)).flatMap wrt) (l.getD i 0) (getD_lt l hn i) (man l) (man_split l i hi) ((pre l i).length : Int) rfl)
  have GA := Lib.hid (fun (W : World) (a : Option Addr) (cc : Nat) (p : Int) (hcc : q ≤ cc) (hW : Byt W a (man l)) => get_any a q cc (man l) p W hq (by omega) hcc hW)
  have UP := Lib.hid (fun i (hi : i + 1 < l.length) => up_at hu i hi)
  have NX := Lib.hid (pre_next l)
  have PL := Lib.hid (fun i => pre_len l hn h2 i)
  have PE : Hid ((pre l l.length).length = q) := Lib.hid (by rw [pre_all]; exact hq)
  have P0 : Hid ((pre l 0).length = (wrt l.length).length) := Lib.hid (by unfold pre; simp)
  obtain ⟨len, hlen⟩ : ∃ len, l.length = len := ⟨_, rfl⟩
  have LL := Lib.hid hlen
  rw [hlen] at PA0 h1 h2 PAi UP PE P0
  clear hb hz hu hn hl ht hq f1 f2 f3 f4 hlen G hln
  go_enter Tryz.func67, Tryz.ntmps67
  go_wp2_with fail
  refine GG.out.mono ?_
  rintro e w1 ⟨A1, C1, rfl, o1, b1⟩
  have QC := Own.le o1 QQ.out
  have Y1 := Lib.hid (o1.byt (man_rng l))
  have B1 := Lib.hid b1
  have G0 := Lib.hid (GA.out w1 A1 C1 0 QC Y1.out)
  rw [PA0.out.1, PA0.out.2.1, PA0.out.2.2] at G0
  obtain ⟨k0, hk0⟩ : ∃ k0, (wrt len).length = k0 := ⟨_, rfl⟩
  rw [hk0] at G0 P0
  rw [Int.zero_add] at G0
  clear o1 b1 GG hk0 PA0
  go_wp2_with fail
  refine G0.out.mono ?_
  rintro e w2 ⟨rfl, hw2⟩
  subst hw2
  clear G0
  go_wp2_with fail
  go_loopw [36, 9, 8] (fun s v t wr => ∃ (i : Nat) (Av : Option Addr) (cv : Nat), s = .int .u64 i ∧ v = .slice Av i cv ∧ t = .int .i64 ((pre l i).length : Int) ∧ i ≤ len ∧ Hid (OwnU wr (.slice Av i cv) (l.take i) ∧ (∀ x, (Value.slice Av i cv).ownBlock = some x → w1.heap.size ≤ x) ∧ Below w.heap.size w wr ∧ Below w1.heap.size w1 wr)) (fun s _ _ _ => len - (intOf s).toNat)
  case atStart => exact ⟨0, none, 0, rfl, rfl, by rw [P0.out], Nat.zero_le _, OwnU.nil _, fun x e => (by cases e), B1.out, Below.refl _ _⟩
  case round =>
    obtain ⟨i, Av, cv, rfl, rfl, rfl, hi, H⟩ := hrel
    have pl := PL.out i
    by_cases ci : i < len
    · have ci' : (i : Int) < (len : Int) := by omega
      have G1 := Lib.hid (GA.out wr A1 C1 ((pre l i).length : Int) QC (Y1.out.below H.out.2.2.2))
      have PI := PAi.out i ci
      rw [PI.1, PI.2.1, PI.2.2] at G1
      have N := NX.out i (by rw [LL.out]; exact ci)
      have eN : ((pre l i).length : Int) + ((wrt (l.getD i 0)).length : Int) = ((pre l (i + 1)).length : Int) := by rw [N, List.length_append]; omega
      rw [eN] at G1
      have TS := Lib.hid (take_snocN l i (by rw [LL.out]; exact ci))
      have UA := Lib.hid (fun (hp : 0 < i) => (show l.getD (i - 1) 0 < l.getD i 0 by have := UP.out (i - 1) (by omega); rwa [show i - 1 + 1 = i by omega] at this))
      have UX := Lib.hid (fun (hp : 0 < i) => H.out.1.us (i - 1) (by rw [List.length_take, LL.out]; omega))
      have TD := Lib.hid (fun (hp : 0 < i) => (show (l.take i).getD (i - 1) 0 = l.getD (i - 1) 0 by
        rw [List.getD_eq_getElem?_getD, List.getD_eq_getElem?_getD, List.getElem?_take, if_pos (by omega)]))
      have pl1 := PL.out (i + 1)
      obtain ⟨v, hv⟩ : ∃ v, l.getD i 0 = v := ⟨_, rfl⟩
      obtain ⟨p0, hp0⟩ : ∃ p0, (pre l i).length = p0 := ⟨_, rfl⟩
      obtain ⟨p1, hp1⟩ : ∃ p1, (pre l (i + 1)).length = p1 := ⟨_, rfl⟩
      rw [hp0] at G1 pl ⊢
      rw [hp1] at G1 pl1
      rw [hv] at G1 TS UA
      have HP1 := Lib.hid hp1
      have O0 := Lib.hid H.out.1
      have NB := Lib.hid H.out.2.1
      have N0 : Hid (∀ x, (Value.slice Av i cv).ownBlock = some x → w.heap.size ≤ x) := Lib.hid (fun x e => Nat.le_trans B1.out.size (NB.out x e))
      have BB := Lib.hid H.out.2.2.1
      have B2 := Lib.hid H.out.2.2.2
      have OC := H.out.1.cap.2
      clear H PI N eN hv hp0 hp1
      go_wp2_with fail
      refine G1.out.mono ?_
      rintro e w3 ⟨rfl, hw3⟩
      subst hw3
      clear G1
      have AP := Lib.hid (Us.one wr v)
      have O1 := Lib.hid (O0.out.same (w' := wr.alloc (.cells #[.int .u64 (v : Int)] 30)) (fun k hk => (below_alloc wr _).block k (O0.out.lt k hk)))
      have LT4 := Lib.hid (show (l.take (i + 1)).length = i + 1 by rw [List.length_take, LL.out]; omega)
      by_cases c0 : i = 0
      · subst c0
        go_wp2_with (at_builtin; refine wp_appu _ rfl _ _ rfl _ (l.take 0) rfl O1.out (some ⟨wr.heap.size, 0, none⟩) 1 1 [v] rfl rfl AP.out (by intro h; cases h) (by rw [List.length_take]; omega) ?_; intro v4 w4 hO4 hg4 hw4; rw [← TS.out] at hO4; have b4 : Below w1.heap.size w1 w4 := (B2.out.trans ((below_alloc wr _).mono B2.out.size)).grown hg4 (Nat.le_trans B2.out.size (below_alloc wr (.cells #[.int .u64 (v : Int)] 30)).size) (fun k hk => NB.out k hk); have n4 : ∀ x, v4.ownBlock = some x → w1.heap.size ≤ x := (fun x e => by rcases hw4 with h | h; rw [h] at e; exact NB.out x e; rw [h] at e; injection e with e; subst e; exact Nat.le_trans B2.out.size (below_alloc wr (.cells #[.int .u64 (v : Int)] 30)).size); obtain ⟨A4, c4, hv4, z1, z2, z3, z4⟩ := hO4.form; clear z1 z2 z3 z4; rw [LT4.out] at hv4; have RES := Lib.hid (And.intro hO4 (And.intro n4 b4)); clear hO4 hg4 hw4 n4 b4; rw [hv4] at RES ⊢; clear hv4)
        go_wp2_with fail
        go_roundw
        case rel => exact ⟨1, A4, c4, by go_num, rfl, by rw [HP1.out], by omega, RES.out.1, RES.out.2.1, B1.out.trans (RES.out.2.2.mono B1.out.size), RES.out.2.2⟩
        case measure => simp [intOf]; omega
      · obtain ⟨bb, off, rfl, x0⟩ := UX.out (by omega)
        rw [TD.out (by omega)] at x0
        obtain ⟨v0, hv0⟩ : ∃ v0, l.getD (i - 1) 0 = v0 := ⟨_, rfl⟩
        rw [hv0] at x0
        have lt0 := UA.out (by omega)
        rw [hv0] at lt0
        have c0' : ((0 : Int) < (i : Int)) := by omega
        have d0 : decide ((0 : Int) < (i : Int)) = true := by simp; omega
        have d1 : decide (0 < i) = true := by simp; omega
        have i0 : (0 : Int) ≤ (i : Int) - 1 := by omega
        have i1 : (i : Int) - 1 < (i : Int) := by omega
        have i2 : (i : Int) ≤ (cv : Int) := by omega
        have wi : IntKind.i64.wrap ((i : Int) - 1) = (i : Int) - 1 := by rw [IntKind.wrap_i64]; omega
        have wn : ((i : Int) - 1).toNat = i - 1 := by omega
        have g1 : decide ((v : Int) ≤ (v0 : Int)) = false := by simp; omega
        have g2 : decide (v ≤ v0) = false := by simp; omega
        clear hv0 lt0
        go_wp2_with (at_builtin; refine wp_appu _ rfl _ _ rfl _ (l.take i) rfl O1.out (some ⟨wr.heap.size, 0, none⟩) 1 1 [v] rfl rfl AP.out (by intro h; cases h) (by rw [List.length_take]; omega) ?_; intro v4 w4 hO4 hg4 hw4; rw [← TS.out] at hO4; have b4 : Below w1.heap.size w1 w4 := (B2.out.trans ((below_alloc wr _).mono B2.out.size)).grown hg4 (Nat.le_trans B2.out.size (below_alloc wr (.cells #[.int .u64 (v : Int)] 30)).size) (fun k hk => NB.out k hk); have n4 : ∀ x, v4.ownBlock = some x → w1.heap.size ≤ x := (fun x e => by rcases hw4 with h | h; rw [h] at e; exact NB.out x e; rw [h] at e; injection e with e; subst e; exact Nat.le_trans B2.out.size (below_alloc wr (.cells #[.int .u64 (v : Int)] 30)).size); obtain ⟨A4, c4, hv4, z1, z2, z3, z4⟩ := hO4.form; clear z1 z2 z3 z4; rw [LT4.out] at hv4; have RES := Lib.hid (And.intro hO4 (And.intro n4 b4)); clear hO4 hg4 hw4 n4 b4; rw [hv4] at RES ⊢; clear hv4)
        go_wp2_with fail
        go_roundw
        case rel => exact ⟨i + 1, A4, c4, by go_num, rfl, by rw [HP1.out], by omega, RES.out.1, RES.out.2.1, B1.out.trans (RES.out.2.2.mono B1.out.size), RES.out.2.2⟩
        case measure => simp [intOf]; omega
    · obtain rfl : i = len := by omega
      have e1 : l.take i = l := List.take_of_length_le (by rw [LL.out]; exact Nat.le_refl _)
      have O0 := Lib.hid H.out.1
      rw [e1] at O0
      have N0 : Hid (∀ x, (Value.slice Av i cv).ownBlock = some x → w.heap.size ≤ x) := Lib.hid (fun x e => Nat.le_trans B1.out.size (H.out.2.1 x e))
      have BB := Lib.hid H.out.2.2.1
      have pe := PE.out
      obtain ⟨p0, hp0⟩ : ∃ p0, (pre l i).length = p0 := ⟨_, rfl⟩
      rw [hp0] at pe
      subst pe
      have d0 : decide (0 < i) = true := by simp; omega
      have d1 : ((0 : Int) < (i : Int)) := by omega
      clear H e1 pl
      rw [hp0]
      clear hp0
      go_wp2_with fail
      go_ret2
      exact ⟨_, rfl, O0.out, N0.out, BB.out⟩
end Go.Proofs.YtcodihgjfhoepaaGreatDoor
