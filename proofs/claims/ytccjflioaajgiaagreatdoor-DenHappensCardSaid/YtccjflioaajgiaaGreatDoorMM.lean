/- Contracts, joined: DnG, DnH. -/
import Derived.Test.YtccjflioaajgiaaGreatDoorDnF
/- The search's either: to which places one of some parts happens. -/
namespace Go.Proofs.YtccjflioaajgiaaGreatDoor
open Go Go.RowKit Go.Maps Pk Rl
set_option maxRecDepth 20000

theorem Sgo.app {S : Sea} {w W W' : World} (h : Sch S w) (k : Sgo S w W) (hb : Below w.heap.size W W') (hci : Ci W W') : Sgo S w W' := by
  have kk : Keep (· = S.m) w W' := k.keep.then_below hb
  have hm : S.m < w.heap.size := by
    obtain ⟨M, h1, _⟩ := h.mp
    exact h1.lt
  refine ⟨⟨h.st.ck (Ck.keep kk h.is) (Ci.keep kk h.is), ?_⟩, kk⟩
  obtain ⟨M, h1, h2⟩ := k.sch.mp
  exact ⟨M, h1.same (hb.block S.m hm), fun n i v hn hi hv => (h2 n i v hn hi hv).ci hci⟩
theorem flat_le (LL : List (List Nat)) (m : Nat) (h : ∀ l ∈ LL, l.length ≤ m) : LL.flatten.length ≤ LL.length * m := by
  induction LL with
  | nil => simp
  | cons l LL ih =>
    have := ih (fun l hl => h l (by simp [hl]))
    have := h l (by simp)
    rw [List.flatten_cons, List.length_append, List.length_cons, Nat.add_mul]
    omega
theorem Sea.en_len (S : Sea) (n i : Nat) (h : S.R.length ≤ 900) : (S.en n i).length ≤ 900 := Nat.le_trans (rng_len _ _) (Nat.le_trans (S.ov_le i) h)
/- union, in the search's words -/
theorem un_any (S : Sea) (i : Nat) (A : Option Addr) (n c : Nat) (LL : List (List Nat)) (w : World) (hS : Sch S w) (hi : i < S.R.length) (hn : LL.length = n) (hx : Lls w A LL) (hm : n ≤ 100000) (hl : ∀ l ∈ LL, l.length ≤ 900) (hge : ∀ l ∈ LL, ∀ x ∈ l, i ≤ x ∧ x ≤ 100000) :
    Calls Tryz.prog 99 #[.pointer (some ⟨S.s, 0, none⟩), .slice A n c, .int .i64 (i : Int)] w fun e w' => (∃ v, e = .returned v ∧ Sl w' v (uni (S.ov i) LL.flatten)) ∧ Below w.heap.size w w' := by
  obtain ⟨ob, of, eo, ho⟩ := hS.st.over i hi
  have h3 := hS.st.c3
  rw [eo] at h3
  have hgt := S.ov_gt i hi
  have hle := S.ov_le i
  have hR := hS.st.fewR
  obtain ⟨d, hd⟩ : ∃ d, S.ov i = i + d := ⟨S.ov i - i, by omega⟩
  rw [hd] at ho ⊢
  have hfl := flat_le LL 900 hl
  exact union_any S.s i d ob of S.R.length S.oC A n c LL w h3 hi ho (by omega) hn hx (by omega) (by omega) (fun x hx => by
    obtain ⟨l, hl, h⟩ := List.mem_flatten.1 hx
    exact hge l hl x h)
def Ih (S : Sea) (p i : Nat) : Prop := ∀ W, Sch S W → Calls Tryz.prog 30 #[.pointer (some ⟨S.s, 0, none⟩), .int .i64 (p : Int), .int .i64 (i : Int)] W fun e w' => (∃ v, e = .returned v ∧ Sl w' v (S.en p i)) ∧ Sgo S W w'
theorem take_snoc_n (L : List Nat) (k : Nat) (h : k < L.length) : L.take (k + 1) = L.take k ++ [L.getD k 0] := by
  rw [List.take_succ_eq_append_getElem h, List.getD_eq_getElem?_getD, List.getElem?_eq_getElem h]; rfl
theorem ngetD_mem_n (L : List Nat) (k : Nat) (h : k < L.length) : L.getD k 0 ∈ L := by
  rw [List.getD_eq_getElem?_getD, List.getElem?_eq_getElem h]; exact List.getElem_mem _
theorem Its.at {w : World} {A : Option Addr} {L : List Nat} (h : Its w A L) (i : Nat) (hi : i < L.length) : ∃ b off, A = some ⟨b, off, none⟩ ∧ w.cell? ⟨b, off + i, none⟩ = some (.int .i64 ((L.getD i 0 : Nat) : Int)) := by
  obtain ⟨b, off, e, hc, _⟩ := h i hi
  exact ⟨b, off, e, hc⟩
set_option maxHeartbeats 4000000 in
theorem either_any (S : Sea) (ps : List Nat) (PA : Option Addr) (pn pC i : Nat) (w : World) (hS : Sch S w) (hi : i < S.R.length) (hP : Its w PA ps) (hn : ps.length = pn) (hpn : pn ≤ 100000) (IH : Hid (∀ p ∈ ps, Ih S p i)) :
    Calls Tryz.prog 77 #[.pointer (some ⟨S.s, 0, none⟩), .slice PA pn pC, .int .i64 (i : Int)] w fun e w' => (∃ v, e = .returned v ∧ Sl w' v (uni (S.ov i) (ps.map fun p => S.en p i).flatten)) ∧ Sgo S w w' := by
  have HS := Lib.hid hS
  have HP := Lib.hid hP
  have HI := Lib.hid hi
  have HR := Lib.hid hS.st.fewR
  subst hn
  clear hS hP hi
  go_enter Tryz.func77, Tryz.ntmps77
  go_wp2_with fail
  go_loopw [7, 12] (fun v t W => ∃ (k : Nat) (A : Option Addr) (c : Nat), k ≤ ps.length ∧ t = .int .i64 k ∧ v = .slice A k c ∧ Hid (OwnL W w.heap.size (.slice A k c) ((ps.take k).map fun p => S.en p i) ∧ Sgo S w W)) (fun _ t _ => ps.length - (intOf t).toNat)
  case atStart => exact ⟨0, none, 0, Nat.zero_le _, rfl, rfl, Lib.hid ⟨OwnL.nil _ _, Sgo.refl HS.out⟩⟩
  case round =>
    obtain ⟨k, A, c, hk, rfl, rfl, H⟩ := hrel
    by_cases hlt : k < ps.length
    · have PW := Lib.hid (HP.out.ci (H.out.2.ci HS.out.is))
      obtain ⟨b, off, rfl, hc⟩ := PW.out.at k hlt
      have C := Lib.hid (IH.out _ (ngetD_mem_n ps k hlt) wr H.out.2.sch)
      have T := Lib.hid (show (ps.take (k + 1)).map (fun p => S.en p i) = (ps.take k).map (fun p => S.en p i) ++ [S.en (ps.getD k 0) i] by rw [take_snoc_n ps k hlt, List.map_append]; rfl)
      generalize ps.getD k 0 = p at hc C T
      go_wp2_with fail
      refine C.out.mono ?_
      rintro e w2 ⟨⟨v, rfl, A2, c2, rfl, h02, hi2⟩, hg⟩
      have hs : Sl w2 (.slice A2 (S.en p i).length c2) (S.en p i) := ⟨A2, c2, rfl, h02, hi2⟩
      have G2 := Lib.hid (H.out.2.trans hg)
      have O2 := Lib.hid (H.out.1.keep hg.keep H.out.2.sch.is)
      have S2 := Lib.hid hs
      have Z2 := Lib.hid hg.keep.size
      have L0 := Lib.hid (show ((ps.take k).map fun p => S.en p i).length = k by simp; omega)
      clear hs hg C h02 hi2
      go_wp2_with ((with_reducible show wpList _ _ _ (Oper.mk (some 22) _ _ _ _ _ :: _) _ _); refine wp_appl1 (.tmp 16) (.tmp 21) _ rfl rfl w.heap.size _ _ rfl (O2.out.below (bal _ _)) _ rfl (.slice A2 (S.en p i).length c2) _ (by simp [go_sem]) (S2.out.below (bal _ _)) (by rw [L0.out]; omega) (Nat.le_trans G2.out.keep.size (bal _ _).size) (k + 1) (by rw [L0.out]) ?_; intro A3 c3 w3 hO hci _ hb; have N3 := Lib.hid (show OwnL w3 w.heap.size (.slice A3 (k + 1) c3) ((ps.take (k + 1)).map fun p => S.en p i) ∧ Sgo S w w3 from ⟨by rw [T.out]; exact hO, (G2.out.below (bal _ _)).app HS.out hb hci⟩); clear hO hb hci)
      exact ⟨⟨k + 1, A3, c3, by omega, by go_num, rfl, N3⟩, by simp [intOf]; omega⟩
    · obtain rfl : k = ps.length := by omega
      have L0 := Lib.hid (H.out.1.lls)
      have U := Lib.hid (un_any S i A ps.length c (ps.map fun p => S.en p i) wr H.out.2.sch HI.out (by simp) (by have := L0.out.2.2; rwa [List.take_of_length_le (Nat.le_refl _)] at this) (by omega)
        (fun l hl => by obtain ⟨p, _, rfl⟩ := List.mem_map.1 hl; exact S.en_len p i HR.out)
        (fun l hl x hx => by obtain ⟨p, _, rfl⟩ := List.mem_map.1 hl; have := Sea.en_mem hx; have := S.ov_le i; have := HR.out; omega))
      go_wp2_with fail
      refine U.out.mono ?_
      rintro e w2 ⟨⟨v, rfl, hs⟩, hb⟩
      have R2 := Lib.hid (show (∃ u, Ending.returned v = .returned u ∧ Sl w2 u (uni (S.ov i) (ps.map fun p => S.en p i).flatten)) ∧ Sgo S w w2 from ⟨⟨v, rfl, hs⟩, H.out.2.below hb⟩)
      clear hs hb
      go_wp2_with fail
      go_ret
      exact R2.out
end Go.Proofs.YtccjflioaajgiaaGreatDoor

/- The search's chain: to which places parts happen, one behind the other. -/
namespace Go.Proofs.YtccjflioaajgiaaGreatDoor
open Go Go.RowKit Go.Maps Pk Rl
set_option maxRecDepth 20000

/- the parts' relations -/
def Sea.rs (S : Sea) (ps : List Nat) : List Rl2 := ps.map (rn (hq S.R) S.R.length S.L)
theorem Sea.rs_fwd (S : Sea) (ps : List Nat) : ∀ r ∈ S.rs ps, Fwd S.R.length r := fun r hr => by
  obtain ⟨p, _, rfl⟩ := List.mem_map.1 hr
  exact rn_fwd _ _ _ _
theorem Sea.rs_len (S : Sea) (ps : List Nat) : (S.rs ps).length = ps.length := List.length_map _
theorem Sea.rs_get (S : Sea) (ps : List Nat) (k : Nat) (h : k < ps.length) : (S.rs ps).getD k (fun _ _ => false) = rn (hq S.R) S.R.length S.L (ps.getD k 0) := by
  simp [Sea.rs, List.getD_eq_getElem?_getD, List.getElem?_eq_getElem h]
def Sea.bg (S : Sea) (G : Nat → Bool) (i : Nat) (ps : List Nat) (k : Nat) : List Nat := bgs (S.ov i) G i (S.rs ps) k
def Sea.rc (S : Sea) (G : Nat → Bool) (i : Nat) (ps : List Nat) (k : Nat) : List Nat := rcd (S.ov i) G i (S.rs ps) k
def Sea.lr (S : Sea) (G : Nat → Bool) (i : Nat) (ps : List Nat) (least k : Nat) : List (List Nat) := lrows (S.ov i) G i (S.rs ps) least k
theorem Sea.bg_mem (S : Sea) (G : Nat → Bool) (i : Nat) (ps : List Nat) (hi : i < S.R.length) (k : Nat) (hk : k ≤ ps.length) : ∀ b ∈ S.bg G i ps k, i ≤ b ∧ b < S.R.length := fun b hb => by
  have := bgs_mem (S.ov i) G i (S.rs ps) (S.ov_gt i hi) S.R.length (S.rs_fwd ps) k (by rw [S.rs_len]; exact hk) b hb
  have := S.ov_le i
  omega
theorem Sea.rc_mem (S : Sea) (G : Nat → Bool) (i : Nat) (ps : List Nat) (hi : i < S.R.length) (k : Nat) (hk : k < ps.length) : ∀ j ∈ S.rc G i ps k, i ≤ j ∧ j < S.R.length := fun j hj => by
  obtain ⟨h1, h2⟩ := mem_rng.1 hj
  obtain ⟨b, hb, h3⟩ := List.any_eq_true.1 h2
  have := S.bg_mem G i ps hi k (by omega) b hb
  have := S.rs_fwd ps _ (getD_mem_r (S.rs ps) k (by rw [S.rs_len]; exact hk)) b j h3
  have := S.ov_le i
  omega
theorem Sea.rc_eq (S : Sea) (G : Nat → Bool) (i : Nat) (ps : List Nat) (hr : Rise S.R) (hi : i < S.R.length) (k : Nat) (hk : k < ps.length) : uni (S.ov i) ((S.bg G i ps k).map fun b => S.en (ps.getD k 0) b).flatten = S.rc G i ps k := by
  show _ = rch (S.ov i) ((S.rs ps).getD k fun _ _ => false) (S.bg G i ps k)
  rw [S.rs_get ps k hk]
  exact rch_uni (S.ov i) (rn (hq S.R) S.R.length S.L (ps.getD k 0)) (S.bg G i ps k) S.ov (fun b hb => by
    have := S.bg_mem G i ps hi k (by omega) b hb
    exact Sea.ov_mono hr this.1 this.2)
theorem Sea.bg_next (S : Sea) (G : Nat → Bool) (i : Nat) (ps : List Nat) (k : Nat) : S.bg G i ps (k + 1) = bhd (S.ov i) G (S.rc G i ps k) := rfl
theorem Sea.lr_next (S : Sea) (G : Nat → Bool) (i : Nat) (ps : List Nat) (least k : Nat) : S.lr G i ps least (k + 1) = if least ≤ k + 1 then S.lr G i ps least k ++ [S.rc G i ps k] else S.lr G i ps least k := rfl
theorem Sea.rc_sorted (S : Sea) (G : Nat → Bool) (i : Nat) (ps : List Nat) (k : Nat) : (S.rc G i ps k).Pairwise (· < ·) := rng_sorted _ _
theorem Sea.rc_len (S : Sea) (G : Nat → Bool) (i : Nat) (ps : List Nat) (h : S.R.length ≤ 900) (k : Nat) : (S.rc G i ps k).length ≤ 900 := Nat.le_trans (rng_len _ _) (Nat.le_trans (S.ov_le i) h)
theorem Sea.lr_len (S : Sea) (G : Nat → Bool) (i : Nat) (ps : List Nat) (least k : Nat) : (S.lr G i ps least k).length ≤ k := by
  induction k with
  | zero => exact Nat.le_refl _
  | succ k ih =>
    rw [S.lr_next]
    split
    · rw [List.length_append, List.length_singleton]; omega
    · omega
theorem Sea.lr_mem (S : Sea) (G : Nat → Bool) (i : Nat) (ps : List Nat) (least k : Nat) : ∀ l ∈ S.lr G i ps least k, ∃ m, m < k ∧ l = S.rc G i ps m := fun l hl => by
  obtain ⟨m, h1, _, h3⟩ := mem_lrows.1 hl
  exact ⟨m, h1, h3⟩
structure Ch (S : Sea) (w2 W : World) (G : Nat → Bool) (i : Nat) (ps : List Nat) (least k : Nat) (av bv : Value) : Prop where
  all : OwnL W w2.heap.size av (S.lr G i ps least k)
  bg : Sl W bv (S.bg G i ps k)
  go : Sgo S w2 W
set_option maxHeartbeats 8000000 in
theorem chain_any (S : Sea) (nd : Nd) (ps : List Nat) (PA : Option Addr) (pn pC least i : Nat) (w : World) (hS : Sch S w) (hN : Nok w nd) (hi : i < S.R.length) (hP : Its w PA ps) (hn : ps.length = pn) (hpn : pn ≤ 100000) (hls : least ≤ 1000000) (IH : Hid (∀ p ∈ ps, ∀ b, b < S.R.length → Ih S p b)) :
    Calls Tryz.prog 76 #[.pointer (some ⟨S.s, 0, none⟩), nOf nd, .slice PA pn pC, .int .i64 (least : Int), .int .i64 (i : Int)] w fun e w' => (∃ v, e = .returned v ∧ Sl w' v (rng (S.ov i) (anyc S.R.length (gd (hq S.R) nd) (S.rs ps) least i))) ∧ Sgo S w w' := by
  obtain ⟨w2, hw2⟩ : ∃ W, (w.alloc (nobj nd)).alloc (.cells #[.int .i64 (i : Int)] 3) = W := ⟨_, rfl⟩
  have hA0 := (Atn.alloc w nd).below (bal _ (.cells #[.int .i64 (i : Int)] 3)) (by simp)
  have hB0 : Below w.heap.size w w2 := by
    rw [← hw2]
    exact (bal w (nobj nd)).trans ((bal _ _).mono (by simp))
  have hI0 : Sl w2 (.slice (some ⟨w.heap.size + 1, 0, none⟩) 1 1) [i] := by
    rw [← hw2]
    refine ⟨_, _, rfl, ⟨(fun h => by cases h), Nat.le_refl _⟩, fun j hj => ⟨_, 0, rfl, ?_, ?_⟩⟩
    · obtain rfl : j = 0 := by simpa using hj
      simp [go_sem]
    · exact ⟨#[.int .i64 (i : Int)], (0, 0), by have := heap_alloc_new (w.alloc (nobj nd)) (.cells #[.int .i64 (i : Int)] 3); simpa using this⟩
  rw [hw2] at hA0
  have HS := Lib.hid (hS.below hB0)
  have HN := Lib.hid (hN.ck (Ck.of_below hB0))
  have HP := Lib.hid (hP.ci (Ci.of_below hB0))
  have HB := Lib.hid hB0
  have HI := Lib.hid hi
  have HR := Lib.hid hS.st.fewR
  have HRi := Lib.hid hS.st.rise
  obtain ⟨G, hG⟩ : ∃ G, gd (hq S.R) nd = G := ⟨_, rfl⟩
  have BH := Lib.hid (fun k (_ : k < ps.length) EA eC W (hW : Sgo S w2 W) (hE : Its W EA (S.rc G i ps k)) (hc : (S.rc G i ps k).length ≤ eC) => behind_any S nd EA _ eC (S.rc G i ps k) i W hW.sch.st ((hN.ck (Ck.of_below hB0)).ck (hW.ck (hS.below hB0).is)) hi hE rfl hc (S.rc_sorted G i ps k))
  have CE : Hid (uni (S.ov i) (S.lr G i ps least ps.length).flatten = rng (S.ov i) (anyc S.R.length G (S.rs ps) least i)) := Lib.hid (by
    have := chain_eq S.R.length (S.ov i) (S.ov_le i) G i (S.rs ps) (S.rs_fwd ps) least
    rw [S.rs_len] at this
    exact this)
  have X0 : Hid (Ch S w2 w2 G i ps least 0 nsl (.slice (some ⟨w.heap.size + 1, 0, none⟩) 1 1)) := Lib.hid ⟨OwnL.nil _ _, hI0, Sgo.refl HS.out⟩
  rw [hG] at BH ⊢
  rw [← CE.out]
  have GK : Hid (Keep (· = S.m) w w2) := Lib.hid (Keep.of_below _ hB0)
  subst hn
  clear hS hN hP hi hB0 hI0 hG CE
  obtain ⟨kk, ⟨x1, t1, a1, n1, c1, L1⟩, y, ⟨x2, t2, a2, n2, c2, L2⟩, lo, hi', sz⟩ := nd
  have A0 := Lib.hid hA0
  clear hA0
  go_enter Tryz.func76, Tryz.ntmps76
  go_wp2_with fail
  go_loopw [11, 12, 23] (fun av bv t W => ∃ (k : Nat) (A B : Option Addr) (na ca cb : Nat), k ≤ ps.length ∧ t = .int .i64 k ∧ av = .slice A na ca ∧ bv = .slice B (S.bg G i ps k).length cb ∧ Hid (Ch S w2 W G i ps least k (.slice A na ca) (.slice B (S.bg G i ps k).length cb))) (fun _ _ t _ => ps.length - (intOf t).toNat)
  case atStart => exact ⟨0, none, _, 0, 0, 1, Nat.zero_le _, rfl, rfl, rfl, X0⟩
  case round =>
    obtain ⟨k, A, B, na, ca, cb, hk, rfl, rfl, rfl, H⟩ := hrel
    by_cases hlt : k < ps.length
    · have PW := Lib.hid (HP.out.ci (H.out.go.ci HS.out.is))
      obtain ⟨b, off, rfl, hc⟩ := PW.out.at k hlt
      have RC := Lib.hid (S.rc_eq G i ps HRi.out HI.out k hlt)
      have IHk := Lib.hid (IH.out _ (ngetD_mem_n ps k hlt))
      have BM := Lib.hid (S.bg_mem G i ps HI.out k hk)
      have HA := Lib.hid H.out.all
      have HG := Lib.hid H.out.bg
      have GO := Lib.hid H.out.go
      have LN := Lib.hid (S.lr_next G i ps least k)
      have BN := Lib.hid (S.bg_next G i ps k)
      have LL := Lib.hid (S.lr_len G i ps least k)
      have RM := Lib.hid (S.rc_mem G i ps HI.out k hlt)
      have BHk := Lib.hid (BH.out k hlt)
      obtain ⟨A1, c1, eb, hbn, ib⟩ := HG.out
      injection eb with eb1 eb2 eb3
      subst eb1 eb3
      have IB := Lib.hid ib
      clear H ib hbn eb2
      have BL : Hid ((S.bg G i ps k).length ≤ 900) := Lib.hid (by
        have : ∀ j, (S.bg G i ps j).length ≤ 900 := fun j => by
          cases j with
          | zero => show [i].length ≤ 900; simp
          | succ j => exact Nat.le_trans (rng_len _ _) (Nat.le_trans (S.ov_le i) HR.out)
        exact this k)
      generalize S.bg G i ps k = Bg at *
      generalize ps.getD k 0 = p at hc RC IHk
      go_wp2_with fail
      rename World => wo
      go_loopw [15, 30] (fun ev t W => ∃ (q : Nat) (A : Option Addr) (c : Nat), q ≤ Bg.length ∧ t = .int .i64 q ∧ ev = .slice A q c ∧ Hid (OwnL W wo.heap.size (.slice A q c) ((Bg.take q).map fun b => S.en p b) ∧ Sgo S wo W)) (fun _ t _ => Bg.length - (intOf t).toNat)
      case atStart => exact ⟨0, none, 0, Nat.zero_le _, rfl, rfl, Lib.hid ⟨OwnL.nil _ _, Sgo.refl GO.out.sch⟩⟩
      case round =>
        obtain ⟨q, A3, c3, hq, rfl, rfl, H⟩ := hrel
        have hbl : Bg.length ≤ 900 := BL.out
        by_cases hlt2 : q < Bg.length
        · have PB := Lib.hid (IB.out.ci (H.out.2.ci GO.out.sch.is))
          obtain ⟨bb, boff, rfl, hcb⟩ := PB.out.at q hlt2
          have C := Lib.hid (IHk.out _ (BM.out _ (ngetD_mem_n Bg q hlt2)).2 wr H.out.2.sch)
          have T := Lib.hid (show (Bg.take (q + 1)).map (fun b => S.en p b) = (Bg.take q).map (fun b => S.en p b) ++ [S.en p (Bg.getD q 0)] by rw [take_snoc_n Bg q hlt2, List.map_append]; rfl)
          generalize Bg.getD q 0 = x at hcb C T
          go_wp2_with fail
          refine C.out.mono ?_
          rintro e w5 ⟨⟨v, rfl, A2, c2, rfl, h02, hi2⟩, hg⟩
          have hs : Sl w5 (.slice A2 (S.en p x).length c2) (S.en p x) := ⟨A2, c2, rfl, h02, hi2⟩
          have G2 := Lib.hid (H.out.2.trans hg)
          have O2 := Lib.hid (H.out.1.keep hg.keep H.out.2.sch.is)
          have S2 := Lib.hid hs
          have L0 := Lib.hid (show ((Bg.take q).map fun b => S.en p b).length = q by simp; omega)
          clear hs hg C h02 hi2
          go_wp2_with ((with_reducible show wpList _ _ _ (Oper.mk (some 40) _ _ _ _ _ :: _) _ _); refine wp_appl1 (.tmp 34) (.tmp 39) _ rfl rfl wo.heap.size _ _ rfl (O2.out.below (bal _ _)) _ rfl (.slice A2 (S.en p x).length c2) _ (by simp [go_sem]) (S2.out.below (bal _ _)) (by rw [L0.out]; have := BL.out; omega) (Nat.le_trans G2.out.keep.size (bal _ _).size) (q + 1) (by rw [L0.out]) ?_; intro A6 c6 w6 hO hci _ hb; have N3 := Lib.hid (show OwnL w6 wo.heap.size (.slice A6 (q + 1) c6) ((Bg.take (q + 1)).map fun b => S.en p b) ∧ Sgo S wo w6 from ⟨by rw [T.out]; exact hO, (G2.out.below (bal _ _)).app GO.out.sch hb hci⟩); clear hO hb hci)
          exact ⟨⟨q + 1, A6, c6, by omega, by go_num, rfl, N3⟩, by simp [intOf]; have := BL.out; omega⟩
        · obtain rfl : q = Bg.length := by omega
          have L0 := Lib.hid (H.out.1.lls)
          have U := Lib.hid (un_any S i A3 Bg.length c3 (Bg.map fun b => S.en p b) wr H.out.2.sch HI.out (by simp) (by have := L0.out.2.2; rwa [List.take_of_length_le (Nat.le_refl _)] at this) (by have := BL.out; omega)
            (fun l hl => by obtain ⟨b, _, rfl⟩ := List.mem_map.1 hl; exact S.en_len p b HR.out)
            (fun l hl x hx => by obtain ⟨b, hb, rfl⟩ := List.mem_map.1 hl; have := Sea.en_mem hx; have := BM.out b hb; have := S.ov_le b; have := HR.out; omega))
          rw [RC.out] at U
          go_wp2_with fail
          refine U.out.mono ?_
          rintro e w5 ⟨⟨v, rfl, A2, c2, rfl, h02, hi2⟩, hb⟩
          have G5 := Lib.hid (GO.out.trans (H.out.2.below hb))
          have O5 := Lib.hid (HA.out.keep (H.out.2.below hb).keep GO.out.sch.is)
          have S5 : Hid (Sl w5 (.slice A2 (S.rc G i ps k).length c2) (S.rc G i ps k)) := Lib.hid ⟨A2, c2, rfl, h02, hi2⟩
          have CPL : Hid ((S.rc G i ps k).length ≤ c2) := Lib.hid h02.2
          clear hb h02 hi2 U
          by_cases hle : least ≤ k + 1
          · rw [if_pos hle] at LN
            go_wp2_with ((with_reducible show wpList _ _ _ (Oper.mk (some 53) _ _ _ _ _ :: _) _ _); refine wp_appl1 (.tmp 50) (.tmp 52) _ rfl rfl w2.heap.size _ _ rfl (O5.out.below (bal _ _)) _ rfl (.slice A2 (S.rc G i ps k).length c2) _ (by simp [go_sem]) (S5.out.below (bal _ _)) (by have := LL.out; omega) (Nat.le_trans G5.out.keep.size (bal _ _).size) ((S.lr G i ps least k).length + 1) rfl ?_; intro A6 c6 w6 hO hci _ hb; have O6 := Lib.hid (show OwnL w6 w2.heap.size (.slice A6 ((S.lr G i ps least k).length + 1) c6) (S.lr G i ps least (k + 1)) by rw [LN.out]; exact hO); have G6 := Lib.hid ((G5.out.below (bal _ _)).app HS.out hb hci); have S6 := Lib.hid ((S5.out.below (bal _ _)).ci hci); clear hO hb hci; have AW := A0.out.ck (G6.out.ck HS.out.is); obtain ⟨f0, f1, f2, f3, f4, f5, f6, f7, f8, f9, f10⟩ := AW; simp only [Nat.zero_add] at f0 f1 f2 f3 f4 f5 f6 f7 f8 f9 f10)
            obtain ⟨A7, c7, e7, h7, i7⟩ := S6.out
            injection e7 with e71 e72 e73
            subst e71 e73
            have BX := Lib.hid (BHk.out A2 c2 _ G6.out i7 CPL.out (fun e he => (RM.out e he).1))
            clear e72 h7 i7
            refine BX.out.mono ?_
            rintro e w7 ⟨⟨v, rfl, hs9⟩, hb⟩
            rw [← BN.out] at hs9
            obtain ⟨A9, c9, rfl, h9, i9⟩ := hs9
            have N9 : Hid (Ch S w2 w7 G i ps least (k + 1) (.slice A6 ((S.lr G i ps least k).length + 1) c6) (.slice A9 (S.bg G i ps (k + 1)).length c9)) := Lib.hid ⟨O6.out.below hb, ⟨A9, c9, rfl, h9, i9⟩, G6.out.below hb⟩
            clear hb h9 i9 BX f0 f1 f2 f3 f4 f5 f6 f7 f8 f9 f10
            go_wp2_with fail
            exact ⟨⟨k + 1, A6, A9, _, c6, c9, by omega, by go_num, rfl, rfl, N9⟩, by simp [intOf]; omega⟩
          · rw [if_neg hle] at LN
            have AW := A0.out.ck (G5.out.ck HS.out.is)
            obtain ⟨f0, f1, f2, f3, f4, f5, f6, f7, f8, f9, f10⟩ := AW
            simp only [Nat.zero_add] at f0 f1 f2 f3 f4 f5 f6 f7 f8 f9 f10
            obtain ⟨A7, c7, e7, h7, i7⟩ := S5.out
            injection e7 with e71 e72 e73
            subst e71 e73
            have BX := Lib.hid (BHk.out A2 c2 _ G5.out i7 CPL.out (fun e he => (RM.out e he).1))
            clear e72 h7 i7
            go_wp2_with fail
            refine BX.out.mono ?_
            rintro e w7 ⟨⟨v, rfl, hs9⟩, hb⟩
            rw [← BN.out] at hs9
            obtain ⟨A9, c9, rfl, h9, i9⟩ := hs9
            have N9 : Hid (Ch S w2 w7 G i ps least (k + 1) (.slice A na ca) (.slice A9 (S.bg G i ps (k + 1)).length c9)) := Lib.hid ⟨by rw [LN.out]; exact O5.out.below hb, ⟨A9, c9, rfl, h9, i9⟩, G5.out.below hb⟩
            clear hb h9 i9 BX f0 f1 f2 f3 f4 f5 f6 f7 f8 f9 f10
            go_wp2_with fail
            exact ⟨⟨k + 1, A, A9, na, ca, c9, by omega, by go_num, rfl, rfl, N9⟩, by simp [intOf]; omega⟩
    · obtain rfl : k = ps.length := by omega
      have L0 := Lib.hid (H.out.all.lls)
      have hnl : na = (S.lr G i ps least ps.length).length := L0.out.1
      subst hnl
      have LL := S.lr_len G i ps least ps.length
      have U := Lib.hid (un_any S i A _ ca (S.lr G i ps least ps.length) wr H.out.go.sch HI.out rfl L0.out.2.2 (by omega)
        (fun l hl => by obtain ⟨m, _, rfl⟩ := S.lr_mem G i ps least _ l hl; exact S.rc_len G i ps HR.out m)
        (fun l hl x hx => by obtain ⟨m, hm, rfl⟩ := S.lr_mem G i ps least _ l hl; have := S.rc_mem G i ps HI.out m hm x hx; have := HR.out; omega))
      go_wp2_with fail
      refine U.out.mono ?_
      rintro e w5 ⟨⟨v, rfl, hs⟩, hb⟩
      have R2 := Lib.hid (show (∃ u, Ending.returned v = .returned u ∧ Sl w5 u (uni (S.ov i) (S.lr G i ps least ps.length).flatten)) ∧ Sgo S w w5 from ⟨⟨v, rfl, hs⟩, ⟨(H.out.go.below hb).sch, GK.out.tr (H.out.go.below hb).keep⟩⟩)
      clear hs hb
      go_wp2_with fail
      go_ret
      exact R2.out
end Go.Proofs.YtccjflioaajgiaaGreatDoor
