/- Which runs there are behind an event, and its matches. -/
import Derived.Test.YtpnllbojifnopaaGreatDoorYRnD
import Derived.BigQuiet
namespace Go.Proofs.YtpnllbojifnopaaGreatDoor
open Go Go.RowKit Go.Maps Pk Rl
set_option maxRecDepth 20000
def gR (Es : List Ed) (pl ba win at_ : Nat) (r : Ru) : List Ru := if win < at_ - r.t then [] else kept ((r.x &&& (18446744073709551615 - ba)) ||| frs Es (ont Es r.x &&& pl)) r
def gM (Es : List Ed) (pl b win at_ next : Nat) (r : Ru) : List Mt := if win < at_ - r.t then [] else hit (ont Es r.x &&& pl) b r.s next
def fR (Es : List Ed) (pl ba win at_ : Nat) (R : List Ru) (k : Nat) : List Ru := (R.take k).flatMap (gR Es pl ba win at_)
def fM (Es : List Ed) (pl b win at_ next : Nat) (R : List Ru) (k : Nat) : List Mt := (R.take k).flatMap (gM Es pl b win at_ next)
theorem take_rsnoc (R : List Ru) (k : Nat) (h : k < R.length) : R.take (k + 1) = R.take k ++ [R.getD k rz] := by
  rw [List.take_succ_eq_append_getElem h, List.getD_eq_getElem?_getD, List.getElem?_eq_getElem h]; rfl
theorem fR_next (Es : List Ed) (pl ba win at_ : Nat) (R : List Ru) (k : Nat) (h : k < R.length) : fR Es pl ba win at_ R (k + 1) = fR Es pl ba win at_ R k ++ gR Es pl ba win at_ (R.getD k rz) := by
  unfold fR; rw [take_rsnoc R k h, List.flatMap_append]; simp
theorem fM_next (Es : List Ed) (pl b win at_ next : Nat) (R : List Ru) (k : Nat) (h : k < R.length) : fM Es pl b win at_ next R (k + 1) = fM Es pl b win at_ next R k ++ gM Es pl b win at_ next (R.getD k rz) := by
  unfold fM; rw [take_rsnoc R k h, List.flatMap_append]; simp
theorem kept_len (x : Nat) (r : Ru) : (kept x r).length ≤ 1 := by unfold kept; split <;> simp
theorem hit_len (q b s n : Nat) : (hit q b s n).length ≤ 1 := by unfold hit; split <;> simp
theorem fR_len (Es : List Ed) (pl ba win at_ : Nat) (R : List Ru) (k : Nat) (h : k ≤ R.length) : (fR Es pl ba win at_ R k).length ≤ k := by
  induction k with
  | zero => simp [fR]
  | succ k ih =>
    rw [fR_next _ _ _ _ _ _ _ h, List.length_append]
    have := ih (by omega)
    have : (gR Es pl ba win at_ (R.getD k rz)).length ≤ 1 := by
      unfold gR
      split
      · simp
      · exact kept_len _ _
    omega
theorem fM_len (Es : List Ed) (pl b win at_ next : Nat) (R : List Ru) (k : Nat) (h : k ≤ R.length) : (fM Es pl b win at_ next R k).length ≤ k := by
  induction k with
  | zero => simp [fM]
  | succ k ih =>
    rw [fM_next _ _ _ _ _ _ _ _ h, List.length_append]
    have := ih (by omega)
    have : (gM Es pl b win at_ next (R.getD k rz)).length ≤ 1 := by
      unfold gM
      split
      · simp
      · exact hit_len _ _ _ _
    omega
structure Fe (w : World) (d : Nat) (Ap : Option Addr) (kp cp a b : Nat) (Ae : Option Addr) (ke ce win next : Nat) (Ar : Option Addr) (nr cr : Nat) (Ps : List Qu) (Es : List Ed) (R : List Ru) (l : Lg) : Prop where
  g : Eg w d Ap kp cp a b Ae ke ce win Ps Es
  c5 : w.cell? ⟨d, 5, none⟩ = some (.int .u64 (next : Int))
  c9 : w.cell? ⟨d, 9, none⟩ = some (.slice Ar nr cr)
  r : Rus w Ar R
  n : R.length = nr
  few : nr ≤ 64
  x : ∀ r ∈ R, r.x < 18446744073709551616 ∧ r.t ≤ l.at_
  tab : Tab w
  lk : Lok w l
theorem Fe.below {w w' : World} {d : Nat} {Ap : Option Addr} {kp cp a b : Nat} {Ae : Option Addr} {ke ce win next : Nat} {Ar : Option Addr} {nr cr : Nat} {Ps : List Qu} {Es : List Ed} {R : List Ru} {l : Lg} (h : Fe w d Ap kp cp a b Ae ke ce win next Ar nr cr Ps Es R l) (hb : Below w.heap.size w w') : Fe w' d Ap kp cp a b Ae ke ce win next Ar nr cr Ps Es R l := by
  have k : ∀ {j v}, w.cell? ⟨d, j, none⟩ = some v → w'.cell? ⟨d, j, none⟩ = some v := fun hc => (hb.cell (World.block_lt_of_cell? _ _ hc)).trans hc
  exact ⟨h.g.below hb, k h.c5, k h.c9, h.r.below hb, h.n, h.few, h.x, h.tab.below hb, h.lk.ck (Ck.of_below hb)⟩
abbrev w4_ (w : World) (d : Nat) (l : Lg) : World := (((w.alloc (.cells #[.pointer (some ⟨d, 0, none⟩)] 69)).alloc (lobj l)).alloc (.cells #[nsl] 89)).alloc (.cells #[nsl] 82)
theorem Fd.start (w : World) (d : Nat) (l : Lg) : Fd w (w4_ w d l) d l [] [] := by
  have h0 := heap_alloc_new w (.cells #[.pointer (some ⟨d, 0, none⟩)] 69)
  have h1 := heap_alloc_new (w.alloc (.cells #[.pointer (some ⟨d, 0, none⟩)] 69)) (lobj l)
  have h2 := heap_alloc_new ((w.alloc (.cells #[.pointer (some ⟨d, 0, none⟩)] 69)).alloc (lobj l)) (.cells #[nsl] 89)
  have h3 := heap_alloc_new (((w.alloc (.cells #[.pointer (some ⟨d, 0, none⟩)] 69)).alloc (lobj l)).alloc (.cells #[nsl] 89)) (.cells #[nsl] 82)
  have b1 := below_alloc (w.alloc (.cells #[.pointer (some ⟨d, 0, none⟩)] 69)) (lobj l)
  have b2 := below_alloc ((w.alloc (.cells #[.pointer (some ⟨d, 0, none⟩)] 69)).alloc (lobj l)) (.cells #[nsl] 89)
  have b3 := below_alloc (((w.alloc (.cells #[.pointer (some ⟨d, 0, none⟩)] 69)).alloc (lobj l)).alloc (.cells #[nsl] 89)) (.cells #[nsl] 82)
  simp only [World.size_alloc] at h1 h2 h3 b1 b2 b3
  refine ⟨below_go (below_alloc _ _) (below_go (below_alloc _ _) (below_go (below_alloc _ _) (below_alloc _ _))), ?_, ?_, ⟨none, 0, ?_, OwnRu.nil _ _⟩, ⟨none, 0, h3, OwnMt.nil _ _⟩, by simp only [World.size_alloc]; omega⟩
  · rw [b3.block _ (by omega), b2.block _ (by omega), b1.block _ (by omega)]; exact h0
  · rw [b3.block _ (by omega), b2.block _ (by omega)]; exact h1
  · rw [b3.block _ (by omega)]; exact h2
def FedX (R : List Ru) (M : List Mt) (w : World) (e : Ending) (w' : World) : Prop := ∃ A c A' c', e = .returned (.tuple #[.slice A R.length c, .slice A' M.length c']) ∧ Hid (OwnRu w' (w.heap.size + 4) (.slice A R.length c) R ∧ OwnMt w' (w.heap.size + 4) (.slice A' M.length c') M) ∧ Below w.heap.size w w'
def feR (Ps : List Qu) (Es : List Ed) (a win next : Nat) (R : List Ru) (l : Lg) : List Ru := fR Es (plc_ Ps l) (brd Es l) win l.at_ R R.length ++ kept (frs Es (a &&& plc_ Ps l)) ⟨next, l.at_, 0⟩
def feM (Ps : List Qu) (Es : List Ed) (a b win next : Nat) (R : List Ru) (l : Lg) : List Mt := fM Es (plc_ Ps l) b win l.at_ next R R.length ++ hit (a &&& plc_ Ps l) b next next
theorem Fd.cl {w W : World} {d : Nat} {l : Lg} {RS : List Ru} {MS : List Mt} (h : Fd w W d l RS MS) : W.cell? ⟨w.heap.size + 1, 2, none⟩ = some (.int .u64 (l.at_ : Int)) ∧ W.cell? ⟨w.heap.size + 1, 3, none⟩ = some (.int .u8 l.t) ∧ W.cell? ⟨w.heap.size + 1, 4, none⟩ = some (.slice l.a l.n l.c) := by
  refine ⟨?_, ?_, ?_⟩ <;> (rw [cell_of_row W _ _ _ _ _ h.l]; rfl)
set_option maxHeartbeats 8000000 in
theorem fed_any (w : World) (d : Nat) (Ap : Option Addr) (kp cp a b : Nat) (Ae : Option Addr) (ke ce win next : Nat) (Ar : Option Addr) (nr cr : Nat) (Ps : List Qu) (Es : List Ed) (R : List Ru) (l : Lg) (hF : Fe w d Ap kp cp a b Ae ke ce win next Ar nr cr Ps Es R l) :
    Calls Tryz.prog 69 #[.pointer (some ⟨d, 0, none⟩), lval l] w fun e w' => FedX (feR Ps Es a win next R l) (feM Ps Es a b win next R l) w e w' := by
  have F0 : Hid (Fd w ((((w.alloc (.cells #[.pointer (some ⟨d, 0, none⟩)] 69)).alloc (.cells #[.int .u32 l.pub, .int .u64 l.seq, .int .u64 (l.at_ : Int), .int .u8 l.t, .slice l.a l.n l.c] 81)).alloc (.cells #[.slice none 0 0] 89)).alloc (.cells #[.slice none 0 0] 82)) d l [] []) := Lib.hid (Fd.start w d l)
  have FF := Lib.hid hF
  have hmf : ∀ (fn : Fn) (first cap : Array Value) (w : World), (Instr.makeFunc fn first cap).run Tryz.prog w = .ok (.func fn first cap) w := fun _ _ _ _ => rfl
  have HO := Lib.hid (fun W (hb : Below w.heap.size w W) => holding_any d Ap kp cp a b Ae ke ce win Ps Es l W (hF.g.below hb) (hF.tab.below hb) (hF.lk.ck (Ck.of_below hb)))
  have hpl : plc_ Ps l < 4294967296 := sbt_lt32 _ _ (by rw [hF.g.cr.lp]; exact hF.g.kp)
  have hba : brd Es l < 18446744073709551616 := sbt_le64 _ _ (by rw [hF.g.cr.le]; exact hF.g.ke)
  unfold feR feM
  obtain ⟨pl, hp⟩ : ∃ z, plc_ Ps l = z := ⟨_, rfl⟩
  obtain ⟨ba, hb⟩ : ∃ z, brd Es l = z := ⟨_, rfl⟩
  rw [hp] at HO hpl ⊢
  rw [hb] at HO hba ⊢
  have NR := Lib.hid FF.out.n
  obtain ⟨rR, hrR⟩ : ∃ z, fR Es pl ba win l.at_ R = z := ⟨_, rfl⟩
  obtain ⟨rM, hrM⟩ : ∃ z, fM Es pl b win l.at_ next R = z := ⟨_, rfl⟩
  have RL : Hid (∀ k, k ≤ nr → (rR k).length ≤ k ∧ (rM k).length ≤ k) := Lib.hid (fun k hk => by rw [← hrR, ← hrM]; exact ⟨fR_len _ _ _ _ _ _ _ (by rw [NR.out]; exact hk), fM_len _ _ _ _ _ _ _ _ (by rw [NR.out]; exact hk)⟩)
  have R0 : Hid (rR 0 = [] ∧ rM 0 = []) := Lib.hid (by rw [← hrR, ← hrM]; exact ⟨rfl, rfl⟩)
  have RN : Hid (∀ k, k < nr → rR (k + 1) = rR k ++ gR Es pl ba win l.at_ (R.getD k rz) ∧ rM (k + 1) = rM k ++ gM Es pl b win l.at_ next (R.getD k rz)) := Lib.hid (fun k hk => by rw [← hrR, ← hrM]; exact ⟨fR_next _ _ _ _ _ _ _ (by rw [NR.out]; exact hk), fM_next _ _ _ _ _ _ _ _ (by rw [NR.out]; exact hk)⟩)
  rw [hrR, hrM, NR.out]
  clear hrR hrM
  clear hF hp hb
  go_enter Tryz.func69, Tryz.ntmps69
  go_upto_region 4 with fail
  generalize (((w.alloc (.cells #[.pointer (some ⟨d, 0, none⟩)] 69)).alloc (.cells #[.int .u32 l.pub, .int .u64 l.seq, .int .u64 (l.at_ : Int), .int .u8 l.t, .slice l.a l.n l.c] 81)).alloc (.cells #[.slice none 0 0] 89)).alloc (.cells #[.slice none 0 0] 82) = W4 at F0 ⊢
  have HC := Lib.hid (HO.out W4 F0.out.bel)
  have e0 := F0.out.ce
  obtain ⟨l2, l3, l4⟩ := F0.out.cl
  clear HO
  go_wp2_with fail
  refine HC.out.mono ?_
  rintro e W5 ⟨rfl, hb⟩
  have F5 := Lib.hid (F0.out.next hb)
  clear hb HC F0 e0 l2 l3 l4
  have e0 := F5.out.ce
  have c9 := F5.out.cd FF.out.c9
  have hnr := FF.out.few
  go_wp2_with fail
  go_loopw [28] (fun v W => ∃ (k : Nat), v = .int .i64 (k : Int) ∧ k ≤ nr ∧ Hid (Fd w W d l (rR k) (rM k))) (fun v _ => nr - (intOf v).toNat)
  case atStart => exact ⟨0, rfl, by omega, Lib.hid (by rw [R0.out.1, R0.out.2]; exact F5.out)⟩
  case round =>
    obtain ⟨k, rfl, hk, H⟩ := hrel
    clear e0 c9 F5
    by_cases ck : k < nr
    · have FX := Lib.hid (FF.out.below H.out.bel)
      obtain ⟨rb, ro, rfl, t0, t1, t2⟩ := FX.out.r k (by rw [NR.out]; exact ck)
      have RX := FF.out.x (R.getD k rz) (by rw [List.getD_eq_getElem?_getD, List.getElem?_eq_getElem (by rw [NR.out]; exact ck)]; exact List.getElem_mem _)
      have RK := Lib.hid (RN.out k ck)
      obtain ⟨r, hr⟩ : ∃ r, R.getD k rz = r := ⟨_, rfl⟩
      rw [hr] at t0 t1 t2 RX RK
      obtain ⟨rs, rt, rx⟩ := r
      simp only at t0 t1 t2 RX
      obtain ⟨hrx, hrt⟩ := RX
      have X0 := Lib.hid (Fb.start H.out ⟨rs, rt, rx⟩)
      clear H hr
      go_upto_region 8 with fail
      generalize wr.alloc (robj ⟨rs, rt, rx⟩) = W6 at X0 ⊢
      generalize wr.heap.size = g at X0 ⊢
      clear t0 t1 t2
      obtain ⟨l2, l3, l4⟩ := X0.out.f.cl
      have e0 := X0.out.f.ce
      have c4 := X0.out.f.cd FF.out.g.c4
      obtain ⟨b0, b1, b2, bf⟩ := X0.out.cells
      simp only at b0 b1 b2
      have h64 := FF.out.lk.at64
      have hw : IntKind.u64.wrap ((l.at_ : Int) - (rt : Int)) = ((l.at_ - rt : Nat) : Int) := by rw [IntKind.wrap_u64]; omega
      by_cases cw : win < l.at_ - rt
      · have KE : Hid (gR Es pl ba win l.at_ ⟨rs, rt, rx⟩ = [] ∧ gM Es pl b win l.at_ next ⟨rs, rt, rx⟩ = []) := Lib.hid ⟨by unfold gR; rw [if_pos cw], by unfold gM; rw [if_pos cw]⟩
        have d1 : decide ((win : Int) < ((l.at_ - rt : Nat) : Int)) = true := by simp; omega
        have d2 : decide (win < l.at_ - rt) = true := by simp; omega
        have XD := Lib.hid (fun m => X0.out.f.next (below_drewN W6.heap.size W6 m))
        clear X0
        go_quiet (fail)
        go_wp2_with fail
        exact ⟨⟨k + 1, by go_num, by omega, Lib.hid (by rw [RK.out.1, RK.out.2, KE.out.1, KE.out.2, List.append_nil, List.append_nil]; exact XD.out _)⟩, by simp [intOf]; omega⟩
      · have KE : Hid (gR Es pl ba win l.at_ ⟨rs, rt, rx⟩ = kept ((rx &&& (18446744073709551615 - ba)) ||| frs Es (ont Es rx &&& pl)) ⟨rs, rt, rx⟩ ∧ gM Es pl b win l.at_ next ⟨rs, rt, rx⟩ = hit (ont Es rx &&& pl) b rs next) := Lib.hid ⟨by unfold gR; rw [if_neg cw], by unfold gM; rw [if_neg cw]⟩
        have d1 : decide ((win : Int) < ((l.at_ - rt : Nat) : Int)) = false := by simp; omega
        have d2 : decide (win < l.at_ - rt) = false := by simp; omega
        have XD := Lib.hid (fun m => X0.out.next (below_drewN W6.heap.size W6 m))
        clear X0
        go_quiet (fail)
        go_wp2_with fail
        clear d1 d2 b0 b1 b2 bf l2 l3 l4 e0 c4 hw
        have hol : ont Es rx < 4294967296 := onp_lt Es rx FF.out.g.ef _ (Nat.le_refl _)
        have OC := Lib.hid (fun m => onto_any d (Ap) kp cp a b Ae ke ce win Ps Es rx (W6.drewN m) hrx (FF.out.g.below (XD.out m).f.bel))
        obtain ⟨o, ho⟩ : ∃ o, ont Es rx = o := ⟨_, rfl⟩
        rw [ho] at OC KE hol
        refine (OC.out _).mono ?_
        rintro e W7 ⟨rfl, hb⟩
        have X7 := Lib.hid ((XD.out _).next hb)
        clear hb OC XD ho
        obtain ⟨b0, b1, b2, bf⟩ := X7.out.cells
        simp only at b0 b1 b2
        have fz := bf 2
        have hand : bits .and .u32 (o : Int) (pl : Int) = ((o &&& pl : Nat) : Int) := u32_and_nat o pl hol hpl
        have hnot : bits .andNot .u64 (rx : Int) (ba : Int) = ((rx &&& (18446744073709551615 - ba) : Nat) : Int) := u64_andNot_nat rx ba hrx hba
        have hq : o &&& pl < 4294967296 := Nat.lt_of_le_of_lt Nat.and_le_left hol
        have hx : rx &&& (18446744073709551615 - ba) < 18446744073709551616 := Nat.lt_of_le_of_lt Nat.and_le_left hrx
        obtain ⟨q, hqe⟩ : ∃ q, o &&& pl = q := ⟨_, rfl⟩
        obtain ⟨x, hxe⟩ : ∃ x, rx &&& (18446744073709551615 - ba) = x := ⟨_, rfl⟩
        rw [hqe] at hand hq KE
        rw [hxe] at hnot hx KE
        have X8 := Lib.hid (X7.out.put x)
        have e7 := X7.out.f.ce
        clear hqe hxe bf
        go_upto_region 11 with fail
        generalize W7.setCell ⟨g, 2, none⟩ (.int .u64 (x : Int)) = W8 at X8 ⊢
        clear b0 b1 b2 e7 fz X7
        obtain ⟨b0, b1, b2, bf⟩ := X8.out.cells
        simp only at b0 b1 b2
        have PC := Lib.hid (put_any w W8 d Ap kp cp a b Ae ke ce win next Ps Es l (rR k) (rM k) ⟨rs, rt, x⟩ q FF.out.g FF.out.c5 X8.out.f hq hx (by have := (RL.out k hk).1; omega) (by have := (RL.out k hk).2; omega))
        simp only at PC
        go_wp2_with fail
        refine PC.out.mono ?_
        rintro e W9 ⟨rfl, F9⟩
        have F10 : Hid (Fd w W9 d l (rR (k + 1)) (rM (k + 1))) := Lib.hid (by rw [RK.out.1, RK.out.2, KE.out.1, KE.out.2]; exact F9)
        clear F9 PC X8 b0 b1 b2 bf
        go_wp2_with fail
        exact ⟨⟨k + 1, by go_num, by omega, Lib.hid F10.out⟩, by simp [intOf]; omega⟩
    · obtain rfl : k = nr := by omega
      have H1 := Lib.hid H.out
      clear H
      have e0 := H1.out.ce
      obtain ⟨l2, l3, l4⟩ := H1.out.cl
      have c5 := H1.out.cd FF.out.c5
      have c1 := H1.out.cd FF.out.g.c1
      have ha := FF.out.g.a
      have hand : bits .and .u32 (a : Int) (pl : Int) = ((a &&& pl : Nat) : Int) := u32_and_nat a pl ha hpl
      have hq : a &&& pl < 4294967296 := Nat.lt_of_le_of_lt Nat.and_le_left ha
      have HD := Lib.hid (fun m => H1.out.next (below_drewN wr.heap.size wr m))
      obtain ⟨q, hqe⟩ : ∃ q, a &&& pl = q := ⟨_, rfl⟩
      rw [hqe] at hand hq
      have PC := Lib.hid (fun W (h : Fd w W d l (rR k) (rM k)) => put_any w W d Ap kp cp a b Ae ke ce win next Ps Es l (rR k) (rM k) ⟨next, l.at_, 0⟩ q FF.out.g FF.out.c5 h hq (by simp) (by have := (RL.out k (Nat.le_refl _)).1; omega) (by have := (RL.out k (Nat.le_refl _)).2; omega))
      simp only at PC
      go_upto_region 13 with fail
      have D0 := Lib.hid (HD.out 1)
      have KD : (fun W => W.cell? ⟨w.heap.size, 0, none⟩ = some (.pointer (some ⟨d, 0, none⟩)) ∧ W.cell? ⟨d, 5, none⟩ = some (.int .u64 (next : Int)) ∧ W.cell? ⟨w.heap.size + 1, 2, none⟩ = some (.int .u64 (l.at_ : Int)) ∧ W.cell? ⟨d, 1, none⟩ = some (.int .u32 (a : Int)) ∧ Hid (∃ RS MS, Fd w W d l RS MS)) wr.drew := ⟨by simpa using e0, by simpa using c5, by simpa using l2, by simpa using c1, Lib.hid ⟨_, _, H1.out.next (Below.refl _ _).drew⟩⟩
      refine wp_region_noPanic ?_
      refine wp_region_held_drew (S := fun W => W.cell? ⟨w.heap.size, 0, none⟩ = some (.pointer (some ⟨d, 0, none⟩)) ∧ W.cell? ⟨d, 5, none⟩ = some (.int .u64 (next : Int)) ∧ W.cell? ⟨w.heap.size + 1, 2, none⟩ = some (.int .u64 (l.at_ : Int)) ∧ W.cell? ⟨d, 1, none⟩ = some (.int .u32 (a : Int)) ∧ Hid (∃ RS MS, Fd w W d l RS MS)) (by kernel_rfl) (by exact KD) (fun hHeld => ?_)
      refine wpAnyH_take (i := 0) (v := ?_) rfl (by kernel_rfl) (by kernel_rfl) (by kernel_rfl) (fun _ _ _ h => h) (Or.inl ⟨by rfl, ?_⟩) (by assumption) ?_
      rotate_left
      · (intro W hSw; simp only [List.getElem_toArray, List.getElem_cons_zero]; (try dsimp only at hSw); go_simp; with_reducible rfl)
      simp only [List.getElem_toArray, List.getElem_cons_zero, Act.put, List.setIfInBounds_toArray, List.set_cons_zero, List.set_cons_succ]
      refine wpAnyH_take (i := 1) (v := ?_) rfl (by kernel_rfl) (by kernel_rfl) (by kernel_rfl) (fun _ _ _ h => h) (Or.inl ⟨by rfl, ?_⟩) (by assumption) ?_
      rotate_left
      · (intro W hSw; simp only [List.getElem_toArray, List.getElem_cons_succ, List.getElem_cons_zero]; (try dsimp only at hSw); go_simp; with_reducible rfl)
      simp only [List.getElem_toArray, List.getElem_cons_succ, List.getElem_cons_zero, Act.put, List.setIfInBounds_toArray, List.set_cons_zero, List.set_cons_succ]
      refine wpAnyH_take (i := 2) (v := ?_) rfl (by kernel_rfl) (by kernel_rfl) (by kernel_rfl) (fun _ _ _ h => h) (Or.inl ⟨by rfl, ?_⟩) (by assumption) ?_
      rotate_left
      · (intro W hSw; simp only [List.getElem_toArray, List.getElem_cons_succ, List.getElem_cons_zero]; (try dsimp only at hSw); go_simp; with_reducible rfl)
      simp only [List.getElem_toArray, List.getElem_cons_succ, List.getElem_cons_zero, Act.put, List.setIfInBounds_toArray, List.set_cons_zero, List.set_cons_succ]
      refine wpAnyH_take (i := 3) (v := ?_) rfl (by kernel_rfl) (by kernel_rfl) (by kernel_rfl) (fun _ _ _ h => h) (Or.inl ⟨by rfl, ?_⟩) (by assumption) ?_
      rotate_left
      · (intro W hSw; simp only [List.getElem_toArray, List.getElem_cons_succ, List.getElem_cons_zero]; (try dsimp only at hSw); go_simp; with_reducible rfl)
      simp only [List.getElem_toArray, List.getElem_cons_succ, List.getElem_cons_zero, Act.put, List.setIfInBounds_toArray, List.set_cons_zero, List.set_cons_succ]
      refine wpAnyH_take (i := 4) (v := ?_) rfl (by kernel_rfl) (by kernel_rfl) (by kernel_rfl) (fun _ _ _ h => h) (Or.inl ⟨by rfl, ?_⟩) (by assumption) ?_
      rotate_left
      · (intro W hSw; simp only [List.getElem_toArray, List.getElem_cons_succ, List.getElem_cons_zero]; (try dsimp only at hSw); go_simp; with_reducible rfl)
      simp only [List.getElem_toArray, List.getElem_cons_succ, List.getElem_cons_zero, Act.put, List.setIfInBounds_toArray, List.set_cons_zero, List.set_cons_succ]
      refine wpAnyH_take (i := 5) (v := ?_) rfl (by kernel_rfl) (by kernel_rfl) (by kernel_rfl) (fun _ _ _ h => h) (Or.inl ⟨by rfl, ?_⟩) (by assumption) ?_
      rotate_left
      · (intro W hSw; simp only [List.getElem_toArray, List.getElem_cons_succ, List.getElem_cons_zero]; (try dsimp only at hSw); go_simp; with_reducible rfl)
      simp only [List.getElem_toArray, List.getElem_cons_succ, List.getElem_cons_zero, Act.put, List.setIfInBounds_toArray, List.set_cons_zero, List.set_cons_succ]
      refine wpAnyH_take (i := 6) (v := ?_) rfl (by kernel_rfl) (by kernel_rfl) (by kernel_rfl) (fun _ _ _ h => h) (Or.inl ⟨by rfl, ?_⟩) (by assumption) ?_
      rotate_left
      · (intro W hSw; simp only [List.getElem_toArray, List.getElem_cons_succ, List.getElem_cons_zero]; (try dsimp only at hSw); go_simp; with_reducible rfl)
      simp only [List.getElem_toArray, List.getElem_cons_succ, List.getElem_cons_zero, Act.put, List.setIfInBounds_toArray, List.set_cons_zero, List.set_cons_succ]
      refine wpAnyH_take (i := 7) (v := ?_) rfl (by kernel_rfl) (by kernel_rfl) (by kernel_rfl) (fun _ _ _ h => h) (Or.inl ⟨by rfl, ?_⟩) (by assumption) ?_
      rotate_left
      · (intro W hSw; simp only [List.getElem_toArray, List.getElem_cons_succ, List.getElem_cons_zero]; (try dsimp only at hSw); go_simp; with_reducible rfl)
      simp only [List.getElem_toArray, List.getElem_cons_succ, List.getElem_cons_zero, Act.put, List.setIfInBounds_toArray, List.set_cons_zero, List.set_cons_succ]
      refine wpAnyH_take (i := 8) (v := ?_) rfl (by kernel_rfl) (by kernel_rfl) (by kernel_rfl) (fun _ _ _ h => h) (Or.inl ⟨by rfl, ?_⟩) (by assumption) ?_
      rotate_left
      · (intro W hSw; simp only [List.getElem_toArray, List.getElem_cons_succ, List.getElem_cons_zero]; (try dsimp only at hSw); go_simp; with_reducible rfl)
      simp only [List.getElem_toArray, List.getElem_cons_succ, List.getElem_cons_zero, Act.put, List.setIfInBounds_toArray, List.set_cons_zero, List.set_cons_succ]
      refine wpAnyH_take (i := 9) (v := ?_) rfl (by kernel_rfl) (by kernel_rfl) (by kernel_rfl) (fun _ _ _ h => h) (Or.inl ⟨by rfl, ?_⟩) (by assumption) ?_
      rotate_left
      · (intro W hSw; simp only [List.getElem_toArray, List.getElem_cons_succ, List.getElem_cons_zero]; (try dsimp only at hSw); go_simp; with_reducible rfl)
      simp only [List.getElem_toArray, List.getElem_cons_succ, List.getElem_cons_zero, Act.put, List.setIfInBounds_toArray, List.set_cons_zero, List.set_cons_succ]
      refine wpAnyH_take (i := 10) (v := ?_) rfl (by kernel_rfl) (by kernel_rfl) (by kernel_rfl) (fun _ _ _ h => h) (Or.inl ⟨by rfl, ?_⟩) (by assumption) ?_
      rotate_left
      · (intro W hSw; simp only [List.getElem_toArray, List.getElem_cons_succ, List.getElem_cons_zero]; (try dsimp only at hSw); go_simp; with_reducible rfl)
      simp only [List.getElem_toArray, List.getElem_cons_succ, List.getElem_cons_zero, Act.put, List.setIfInBounds_toArray, List.set_cons_zero, List.set_cons_succ]
      refine wpAnyH_take (i := 11) (v := ?_) rfl (by kernel_rfl) (by kernel_rfl) (by kernel_rfl) (fun _ _ _ h => h) (Or.inl ⟨by rfl, ?_⟩) (by assumption) ?_
      rotate_left
      · (intro W hSw; simp only [List.getElem_toArray, List.getElem_cons_succ, List.getElem_cons_zero]; (try dsimp only at hSw); go_simp; with_reducible rfl)
      simp only [List.getElem_toArray, List.getElem_cons_succ, List.getElem_cons_zero, Act.put, List.setIfInBounds_toArray, List.set_cons_zero, List.set_cons_succ]
      refine wpAnyH_take (i := 12) (v := ?_) rfl (by kernel_rfl) (by kernel_rfl) (by kernel_rfl) (fun _ _ _ h => h) (Or.inl ⟨by rfl, ?_⟩) (by assumption) ?_
      rotate_left
      · (intro W hSw; simp only [List.getElem_toArray, List.getElem_cons_succ, List.getElem_cons_zero]; (try dsimp only at hSw); go_simp; with_reducible rfl)
      simp only [List.getElem_toArray, List.getElem_cons_succ, List.getElem_cons_zero, Act.put, List.setIfInBounds_toArray, List.set_cons_zero, List.set_cons_succ]
      refine wpAnyH_take (i := 13) (v := ?_) rfl (by kernel_rfl) (by kernel_rfl) (by kernel_rfl) (fun _ _ _ h => h) (Or.inl ⟨by rfl, ?_⟩) (by assumption) ?_
      rotate_left
      · (intro W hSw; simp only [List.getElem_toArray, List.getElem_cons_succ, List.getElem_cons_zero]; (try dsimp only at hSw); go_simp; with_reducible rfl)
      simp only [List.getElem_toArray, List.getElem_cons_succ, List.getElem_cons_zero, Act.put, List.setIfInBounds_toArray, List.set_cons_zero, List.set_cons_succ]
      refine wpAnyH_take (i := 14) (v := ?_) rfl (by kernel_rfl) (by kernel_rfl) (by kernel_rfl) (fun _ _ _ h => h) (Or.inl ⟨by rfl, ?_⟩) (by assumption) ?_
      rotate_left
      · (intro W hSw; simp only [List.getElem_toArray, List.getElem_cons_succ, List.getElem_cons_zero]; (try dsimp only at hSw); go_simp; with_reducible rfl)
      simp only [List.getElem_toArray, List.getElem_cons_succ, List.getElem_cons_zero, Act.put, List.setIfInBounds_toArray, List.set_cons_zero, List.set_cons_succ]
      refine wpAnyH_take (i := 15) (v := ?_) rfl (by kernel_rfl) (by kernel_rfl) (by kernel_rfl) (fun _ _ _ h => h) (Or.inl ⟨by rfl, ?_⟩) (by assumption) ?_
      rotate_left
      · (intro W hSw; simp only [List.getElem_toArray, List.getElem_cons_succ, List.getElem_cons_zero]; (try dsimp only at hSw); go_simp; with_reducible rfl)
      simp only [List.getElem_toArray, List.getElem_cons_succ, List.getElem_cons_zero, Act.put, List.setIfInBounds_toArray, List.set_cons_zero, List.set_cons_succ]
      refine wpAnyH_ready (rs := [16]) (by kernel_rfl) (by simp) ?_
      refine AllReadyH.cons rfl (fun K hK => ?_) AllReadyH.nil
      (try simp only [List.getElem_toArray, List.getElem_cons_succ, List.getElem_cons_zero])
      go_simp
      go_wp2_with (go_at_call 99; refine (PC.out _ (HD.out _)).mono ?_; rintro e w4 ⟨rfl, F9⟩)
      refine hK.out _ _ ⟨F9.ce, F9.cd FF.out.c5, F9.cl.1, F9.cd FF.out.g.c1, Lib.hid ⟨_, _, F9⟩⟩ (fun hHeld => ?_)
      (try simp only [List.getElem_toArray, List.getElem_cons_succ, List.getElem_cons_zero, Act.put, List.setIfInBounds_toArray, List.set_cons_zero, List.set_cons_succ])
      refine wpAnyH_done (by kernel_rfl) ?_ _
      refine NoPanic.normal ?_
      have F10 := Lib.hid F9
      clear F9 HD D0 PC
      obtain ⟨A, c, h1, h2⟩ := F10.out.r
      obtain ⟨A', c', h3, h4⟩ := F10.out.m
      have s1 : w4.cell? ⟨w.heap.size + 1 + 1, 0, none⟩ = some (.slice A (rR k ++ kept (0 ||| frs Es q) ⟨next, l.at_, 0⟩).length c) := by rw [cell_of_row _ _ _ _ _ _ h1]; rfl
      have s2 : w4.cell? ⟨w.heap.size + 1 + 1 + 1, 0, none⟩ = some (.slice A' (rM k ++ hit q b next next).length c') := by rw [cell_of_row _ _ _ _ _ _ h3]; rfl
      have FD := Lib.hid (fun m => F10.out.next (below_drewN w4.heap.size w4 m))
      have O1 := Lib.hid h2
      have O2 := Lib.hid h4
      clear h1 h2 h3 h4
      have HQ := Lib.hid hqe
      clear hqe
      go_upto_region 14 with fail
      go_quiet (fail)
      go_wp2_with fail
      refine bodyPost_ret (results_tmp2 rfl _ _ _) rfl ?_
      rw [HQ.out]
      have E0 : (0 ||| frs Es q) = frs Es q := Nat.zero_or _
      have FQ := FD.out
      refine ⟨A, c, A', c', by rw [List.length_append, List.length_append]; rfl, Lib.hid ⟨?_, ?_⟩, ?_⟩
      · have := O1.out
        rw [E0] at this
        exact this.below (below_drewN _ _ _)
      · exact O2.out.below (below_drewN _ _ _)
      · exact (FQ _).bel
end Go.Proofs.YtpnllbojifnopaaGreatDoor
