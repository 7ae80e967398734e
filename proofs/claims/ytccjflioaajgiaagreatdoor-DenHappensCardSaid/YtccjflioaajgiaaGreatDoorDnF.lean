/- The search's behind: where a node may go on, if its part ahead ends at one of some places. -/
import Derived.Test.YtccjflioaajgiaaGreatDoorDnS
import Derived.Test.YtccjflioaajgiaaGreatDoorMK
import Derived.Deep.RegionHeld3
import Derived.Deep.DeepCutAuto
import Derived.BigQuiet
import Derived.WalkSmall
namespace Go.Proofs.YtccjflioaajgiaaGreatDoor
open Go Go.RowKit Go.Maps Pk Rl
set_option maxRecDepth 20000

def opn (g : Nat → Bool) (E : List Nat) (a : Nat) : Bool := E.any fun e => gp g e a
theorem opn_next (g : Nat → Bool) (E : List Nat) (a : Nat) : opn g E (a + 1) = ((opn g E a && !g a) || E.contains a) := by
  unfold opn
  rw [Bool.eq_iff_iff, Bool.or_eq_true, Bool.and_eq_true, List.any_eq_true, List.any_eq_true, List.contains_iff_mem]
  constructor
  · rintro ⟨e, he, h⟩
    obtain ⟨h1, h2⟩ := gp_iff.1 h
    by_cases c : e = a
    · subst c; exact .inr he
    · refine .inl ⟨⟨e, he, gp_iff.2 ⟨by omega, fun k hk hj => h2 k hk (by omega)⟩⟩, ?_⟩
      rw [h2 a (by omega) (by omega)]; rfl
  · rintro (⟨⟨e, he, h⟩, hg⟩ | h)
    · obtain ⟨h1, h2⟩ := gp_iff.1 h
      refine ⟨e, he, gp_iff.2 ⟨by omega, fun k hk hj => ?_⟩⟩
      by_cases c : k = a
      · subst c; simpa using hg
      · exact h2 k hk (by omega)
    · exact ⟨a, h, gp_iff.2 ⟨by omega, fun k hk hj => by omega⟩⟩
theorem opn_start (g : Nat → Bool) (E : List Nat) (i : Nat) (h : ∀ e ∈ E, i ≤ e) (a : Nat) (ha : a ≤ i) : opn g E a = false := by
  unfold opn
  rw [← Bool.not_eq_true, List.any_eq_true]
  rintro ⟨e, he, h1⟩
  have := (gp_iff.1 h1).1
  have := h e he
  omega
theorem rng_next (o : Nat) (f : Nat → Bool) : rng (o + 1) f = if f o then rng o f ++ [o] else rng o f := by
  unfold rng
  rw [List.range_succ, List.filter_append]
  cases h : f o
  · simp only [List.filter_cons, List.filter_nil, h]; simp
  · simp only [List.filter_cons, List.filter_nil, h]; simp
theorem rng_len (o : Nat) (f : Nat → Bool) : (rng o f).length ≤ o := Nat.le_trans (List.length_filter_le _ _) (by rw [List.length_range]; exact Nat.le_refl _)
theorem rng_start (g : Nat → Bool) (E : List Nat) (i : Nat) (h : ∀ e ∈ E, i ≤ e) : rng i (opn g E) = [] := by
  refine List.eq_nil_iff_forall_not_mem.2 fun x hx => ?_
  obtain ⟨h1, h2⟩ := mem_rng.1 hx
  rw [opn_start g E i h x (by omega)] at h2
  cases h2
theorem rng_sorted (o : Nat) (f : Nat → Bool) : (rng o f).Pairwise (· < ·) := List.Pairwise.filter _ List.pairwise_lt_range
/- what is left of the ends from a place on -/
structure Lft (E E' : List Nat) (a : Nat) : Prop where
  srt : E'.Pairwise (· < ·)
  mem : ∀ x, x ∈ E' ↔ x ∈ E ∧ a ≤ x
theorem Lft.start {E : List Nat} {i : Nat} (h : E.Pairwise (· < ·)) (h2 : ∀ e ∈ E, i ≤ e) : Lft E E i := ⟨h, fun x => ⟨fun hx => ⟨hx, h2 x hx⟩, fun hx => hx.1⟩⟩
theorem Lft.hit {E t : List Nat} {a : Nat} (h : Lft E (a :: t) a) : E.contains a = true ∧ Lft E t (a + 1) := by
  refine ⟨List.contains_iff_mem.2 ((h.mem a).1 (by simp)).1, (List.pairwise_cons.1 h.srt).2, fun x => ?_⟩
  have hs := (List.pairwise_cons.1 h.srt).1
  constructor
  · intro hx
    exact ⟨((h.mem x).1 (by simp [hx])).1, by have := hs x hx; omega⟩
  · rintro ⟨h1, h2⟩
    rcases List.mem_cons.1 ((h.mem x).2 ⟨h1, by omega⟩) with rfl | hx
    · omega
    · exact hx
theorem Lft.miss {E E' : List Nat} {a : Nat} (h : Lft E E' a) (h0 : ∀ e t, E' = e :: t → e ≠ a) : E.contains a = false ∧ Lft E E' (a + 1) := by
  have key : a ∉ E' := by
    cases E' with
    | nil => simp
    | cons e t =>
      intro hm
      rcases List.mem_cons.1 hm with rfl | hm
      · exact h0 _ _ rfl rfl
      · have := (List.pairwise_cons.1 h.srt).1 a hm
        have := ((h.mem e).1 (by simp)).2
        omega
  refine ⟨?_, h.srt, fun x => ?_⟩
  · rw [← Bool.not_eq_true, List.contains_iff_mem]
    exact fun hm => key ((h.mem a).2 ⟨hm, Nat.le_refl _⟩)
  · rw [h.mem]
    constructor
    · rintro ⟨h1, h2⟩
      refine ⟨h1, ?_⟩
      by_cases c : x = a
      · subst c; exact absurd ((h.mem x).2 ⟨h1, h2⟩) key
      · omega
    · rintro ⟨h1, h2⟩; exact ⟨h1, by omega⟩
theorem Its.tail {w : World} {b off : Nat} {e : Nat} {t : List Nat} (h : Its w (some ⟨b, off, none⟩) (e :: t)) : Its w (some ⟨b, off + 1, none⟩) t := fun i hi => by
  obtain ⟨b', off', h1, h2, h3⟩ := h (i + 1) (by simpa using hi)
  injection h1 with h1
  injection h1 with e1 e2
  subst e1 e2
  exact ⟨b, off + 1, rfl, by rw [show off + 1 + i = off + (i + 1) by omega]; simpa using h2, h3⟩
structure Bh (S : Sea) (w0 : World) (h : Nat) (g : Nat → Bool) (E : List Nat) (W : World) (a : Nat) (bv : Value) (A : Option Addr) (E' : List Nat) : Prop where
  own : OwnZ W (h + 1) bv (rng a (opn g E))
  its : Its w0 A E'
  lft : Lft E E' a
  bel : Below (h + 1) w0 W
theorem its_cut {w : World} {b off c : Nat} {e : Nat} {t : List Nat} (h : Its w (some ⟨b, off, none⟩) (e :: t)) (hc : (e :: t).length ≤ c) : Its w (if c = 1 then some ⟨b, off, none⟩ else some ⟨b, off + 1, none⟩) t := by
  split
  · rename_i h1
    have : t = [] := List.eq_nil_of_length_eq_zero (by simp at hc; omega)
    subst this
    exact Its.nil _ _
  · exact h.tail
/- what the test loads -/
theorem Bh.next {S : Sea} {w0 : World} {h : Nat} {g : Nat → Bool} {E : List Nat} {W W' : World} {a : Nat} {bv : Value} {A : Option Addr} {E' : List Nat} (k : Bh S w0 h g E W a bv A E') (hb : Below W.heap.size W W') (hs : h + 1 ≤ W.heap.size) : Bh S w0 h g E W' a bv A E' :=
  ⟨k.own.below hb, k.its, k.lft, k.bel.trans (hb.mono hs)⟩
abbrev Kf (wr W : World) (h s rb ro rN rC a : Nat) (y x2 : Bool) (t2 : Int) (a2 : Option Addr) (n2 c2 : Nat) (et : Int) (ea : Option Addr) (en ec : Nat) : Prop :=
  W.cell? ⟨h, 4, none⟩ = some (.bool y) ∧ W.cell? ⟨h, 5, none⟩ = some (.bool x2) ∧ W.cell? ⟨h, 6, none⟩ = some (.int .u8 t2) ∧ W.cell? ⟨h, 7, none⟩ = some (.slice a2 n2 c2) ∧ W.cell? ⟨s, 2, none⟩ = some (.slice (some ⟨rb, ro, none⟩) rN rC) ∧
  W.cell? ⟨rb, ro + a * 5 + 3, none⟩ = some (.int .u8 et) ∧ W.cell? ⟨rb, ro + a * 5 + 4, none⟩ = some (.slice ea en ec) ∧ Hid (Below wr.heap.size wr W)
theorem kf_next {wr W W' : World} {h s rb ro rN rC a : Nat} {y x2 : Bool} {t2 : Int} {a2 : Option Addr} {n2 c2 : Nat} {et : Int} {ea : Option Addr} {en ec : Nat} (hb : Below W.heap.size W W') (K : Kf wr W h s rb ro rN rC a y x2 t2 a2 n2 c2 et ea en ec) : Kf wr W' h s rb ro rN rC a y x2 t2 a2 n2 c2 et ea en ec := by
  have k := Ck.of_below hb
  obtain ⟨h1, h2, h3, h4, h5, h6, h7, h8⟩ := K
  exact ⟨k _ _ _ h1, k _ _ _ h2, k _ _ _ h3, k _ _ _ h4, k _ _ _ h5, k _ _ _ h6, k _ _ _ h7, Lib.hid (h8.out.trans (hb.mono h8.out.size))⟩
theorem kf_drew {wr W : World} {h s rb ro rN rC a : Nat} {y x2 : Bool} {t2 : Int} {a2 : Option Addr} {n2 c2 : Nat} {et : Int} {ea : Option Addr} {en ec : Nat} (K : Kf wr W h s rb ro rN rC a y x2 t2 a2 n2 c2 et ea en ec) : Kf wr W.drew h s rb ro rN rC a y x2 t2 a2 n2 c2 et ea en ec := kf_next (Below.refl _ _).drew K
set_option maxHeartbeats 8000000 in
theorem behind_any (S : Sea) (nd : Nd) (EA : Option Addr) (en eC : Nat) (E : List Nat) (i : Nat) (w : World) (hS : Sst S w) (hN : Nok w nd) (hi : i < S.R.length) (hE : Its w EA E) (hn : E.length = en) (hc : en ≤ eC) (hs : E.Pairwise (· < ·)) (hlo : ∀ e ∈ E, i ≤ e) :
    Calls Tryz.prog 100 #[.pointer (some ⟨S.s, 0, none⟩), nOf nd, .slice EA en eC, .int .i64 (i : Int)] w fun e w' => (∃ v, e = .returned v ∧ Sl w' v (bhd (S.ov i) (gd (hq S.R) nd) E)) ∧ Below w.heap.size w w' := by
  obtain ⟨ob, of, eo, ho⟩ := hS.over i hi
  obtain ⟨rb, ro, er, _, _⟩ := hS.event i hi
  have hoN := S.ov_le i
  have hoi := S.ov_gt i hi
  have hR := hS.fewR
  obtain ⟨w1, hw1⟩ : ∃ W, w.alloc (nobj nd) = W := ⟨_, rfl⟩
  have B0 : Below w.heap.size w w1 := hw1 ▸ bal w (nobj nd)
  have A0 : Atn w1 w.heap.size 0 nd := hw1 ▸ Atn.alloc w nd
  have Z0 : Hid (w1.heap.size = w.heap.size + 1) := Lib.hid (by rw [← hw1]; simp)
  have S1 := Lib.hid (hS.ck (Ck.of_below B0) (Ci.of_below B0))
  have N1 := Lib.hid (hN.ck (Ck.of_below B0))
  have B1 := Lib.hid B0
  have H3 := Lib.hid (S1.out.c3)
  have H2 := Lib.hid (S1.out.c2)
  rw [eo] at H3
  rw [er] at H2
  have HO := Lib.hid (Ck.of_below B0 _ _ _ ho)
  have EV : Hid (∀ a, a < S.R.length → Atl w1 rb (ro + a * 5) (S.R.getD a lz)) := Lib.hid (fun a ha => by
    obtain ⟨b', o', e', h', _⟩ := S1.out.event a ha
    rw [er] at e'
    injection e' with e'
    injection e' with e1 e2
    subst e1 e2
    exact h')
  obtain ⟨G, hG⟩ : ∃ G, gd (hq S.R) nd = G := ⟨_, rfl⟩
  have GA : Hid (∀ a, G a = (nd.y && hq S.R nd.g a)) := Lib.hid (fun a => by rw [← hG]; rfl)
  rw [hG]
  have X0 : Hid (Bh S w1 w.heap.size G E w1 i nsl EA E) := Lib.hid ⟨by rw [rng_start _ _ _ hlo]; exact OwnZ.nil _ _, hE.ci (Ci.of_below B0), Lft.start hs hlo, Below.refl _ _⟩
  have O0 := Lib.hid (opn_start G E i hlo i (Nat.le_refl _))
  have E1 : Hid (bhd (S.ov i) G E = rng (S.ov i) (opn G E)) := Lib.hid rfl
  rw [E1.out]
  generalize S.ov i = o at H3 HO hoN hoi ⊢
  subst hn
  have CH := Lib.hid (fun a (ha : a < S.R.length) W (hW : Below w1.heap.size w1 W) => Sch.holds (S1.out.ck (Ck.of_below hW) (Ci.of_below hW)) nd.g (N1.out.g.ck (Ck.of_below hW)) a ha)
  clear hS hN hE hs hlo eo ho E1 B0 hG S1 N1
  obtain ⟨kk, ⟨x1, t1, a1, n1, c1, L1⟩, y, ⟨x2, t2, a2, n2, c2, L2⟩, lo, hi', sz⟩ := nd
  obtain ⟨_, _, _, _, e4, e5, e6, e7, _, _, _⟩ := A0
  have X4 := Lib.hid e4
  have X5 := Lib.hid e5
  have X6 := Lib.hid e6
  have X7 := Lib.hid e7
  simp only at X4 X5 X6 X7 GA CH
  clear e4 e5 e6 e7
  generalize hh : w.heap.size = h at *
  go_enter Tryz.func100, Tryz.ntmps100
  go_wp2_with fail
  go_loopw [2, 9, 10, 11] (fun ev bv ov av W => ∃ (a : Nat) (A : Option Addr) (E' : List Nat) (c' : Nat), ev = .slice A E'.length c' ∧ E'.length ≤ c' ∧ ov = .bool (opn G E a) ∧ av = .int .i64 a ∧ i ≤ a ∧ a ≤ o ∧ Hid (Bh S w1 h G E W a bv A E')) (fun _ _ _ av _ => o - (intOf av).toNat)
  case atStart => exact ⟨i, EA, E, eC, rfl, hc, by rw [O0.out], rfl, Nat.le_refl _, by omega, X0⟩
  case round =>
    obtain ⟨a, A, E', c', rfl, hcc, rfl, rfl, hia, hao, H⟩ := hrel
    have HB : Hid (Below w1.heap.size w1 wr) := Lib.hid (by rw [Z0.out]; exact H.out.bel)
    have SZ : Hid (h + 1 ≤ wr.heap.size) := Lib.hid (by have := HB.out.size; rw [Z0.out] at this; exact this)
    have g3 := Ck.of_below HB.out _ _ _ H3.out
    have go := Ck.of_below HB.out _ _ _ HO.out
    by_cases hlt : a < o
    · have haN : a < S.R.length := by omega
      have PN := Lib.hid (opn_next G E a)
      have RN := Lib.hid (rng_next a (opn G E))
      have RL := Lib.hid (rng_len a (opn G E))
      rw [GA.out a] at PN
      have GAa := Lib.hid (GA.out a)
      obtain ⟨_, _, _, ee3, ee4⟩ := EV.out a haN
      have V3 := Lib.hid ee3
      have V4 := Lib.hid ee4
      clear ee3 ee4
      have CA := Lib.hid (CH.out a haN)
      generalize hq S.R ⟨x2, t2, a2, n2, c2, L2⟩ a = bq at PN CA GAa
      obtain ⟨A9, c9, e9, _⟩ := H.out.own.sl
      subst e9
      rcases E' with _ | ⟨e, t⟩
      · obtain ⟨M1, M2⟩ := H.out.lft.miss (fun e t h => by cases h)
        rw [M1] at PN
        have M3 := Lib.hid M2
        clear M1 M2
        cases op : opn G E a
        · have OP := Lib.hid op
          have RX : Hid (rng (a + 1) (opn G E) = rng a (opn G E)) := Lib.hid (by rw [RN.out, op]; rfl)
          clear op
          go_wp2_with fail
          exact ⟨⟨a + 1, A, [], c', rfl, Nat.zero_le _, by first | (rw [PN.out]; done) | (rw [PN.out]; simp [OP.out]), by go_num, by omega, by omega, Lib.hid (Bh.next (W := wr) ⟨by rw [RX.out]; exact H.out.own, Its.nil _ _, M3.out, H.out.bel⟩ (Below.refl _ _) SZ.out)⟩, by simp [intOf]; omega⟩
        · have OP := Lib.hid op
          have RX : Hid (rng (a + 1) (opn G E) = rng a (opn G E) ++ [a]) := Lib.hid (by rw [RN.out, op]; rfl)
          clear op
          go_wp2_with ((with_reducible show wpList _ _ _ (Oper.mk (some 28) _ _ _ _ _ :: _) _ _); refine wp_appn1 (.tmp 25) (.tmp 27) _ rfl rfl (h + 1) _ (rng a (opn G E)) rfl (H.out.own.below (bal _ _)) _ rfl a (by simp [go_sem]) (by have := RL.out; omega) (Nat.le_trans SZ.out (bal _ _).size) ((rng a (opn G E)).length + 1) rfl ?_; intro A4 c4 w3 hO hb; have O3 := Lib.hid (show OwnZ w3 (h + 1) (.slice A4 ((rng a (opn G E)).length + 1) c4) (rng (a + 1) (opn G E)) by rw [RX.out]; exact hO); have L3 := Lib.hid (((bal wr _).mono SZ.out).trans hb); clear hO hb)
          have B3 : Hid (Below (h + 1) w1 w3) := Lib.hid (H.out.bel.trans L3.out)
          have Z3 : Hid (h + 1 ≤ w3.heap.size) := Lib.hid (Nat.le_trans SZ.out L3.out.size)
          have D3 : Hid (Below w1.heap.size w1 w3) := Lib.hid (by rw [Z0.out]; exact B3.out)
          have k3 := Ck.of_below D3.out
          have z4 := k3 _ _ _ X4.out
          simp only [Nat.zero_add] at z4
          cases y
          · skip
            go_quiet (fail)
            go_wp2_with fail
            exact ⟨⟨a + 1, A, [], c', rfl, Nat.zero_le _, by first | (rw [PN.out]; done) | (rw [PN.out]; simp [OP.out]), by go_num, by omega, by omega, Lib.hid (Bh.next (W := w3) ⟨O3.out, Its.nil _ _, M3.out, B3.out⟩ (by first | exact below_drewN _ w3 _ | exact (below_drewN _ w3 _).trans (below_drewN _ _ _) | exact Below.refl _ _) Z3.out)⟩, by simp [intOf]; omega⟩
          · have K3 : Kf w3 w3 h S.s rb ro S.R.length S.rC a true x2 t2 a2 n2 c2 (S.R.getD a lz).t (S.R.getD a lz).a (S.R.getD a lz).n (S.R.getD a lz).c := ⟨z4, (by have := k3 _ _ _ X5.out; simpa using this), (by have := k3 _ _ _ X6.out; simpa using this), (by have := k3 _ _ _ X7.out; simpa using this), k3 _ _ _ H2.out, k3 _ _ _ V3.out, k3 _ _ _ V4.out, Lib.hid (Below.refl _ _)⟩
            have KD := Lib.hid (kf_drew K3)
            have CB := Lib.hid (fun W (K : Kf w3 W h S.s rb ro S.R.length S.rC a true x2 t2 a2 n2 c2 (S.R.getD a lz).t (S.R.getD a lz).a (S.R.getD a lz).n (S.R.getD a lz).c) => CA.out W (by have := K.2.2.2.2.2.2.2.out; exact D3.out.trans (this.mono D3.out.size)))
            obtain ⟨q0, q1, q2, q3, q4, q5, q6, _⟩ := K3
            generalize S.R.getD a lz = ev at q5 q6 CB KD
            go_region_held3 (fun W => W.cell? ⟨h, 4, none⟩ = some (.bool true) ∧ W.cell? ⟨h, 5, none⟩ = some (.bool x2) ∧ W.cell? ⟨h, 6, none⟩ = some (.int .u8 t2) ∧ W.cell? ⟨h, 7, none⟩ = some (.slice a2 n2 c2) ∧ W.cell? ⟨S.s, 2, none⟩ = some (.slice (some ⟨rb, ro, none⟩) S.R.length S.rC) ∧ W.cell? ⟨rb, ro + a * 5 + 3, none⟩ = some (.int .u8 ev.t) ∧ W.cell? ⟨rb, ro + a * 5 + 4, none⟩ = some (.slice ev.a ev.n ev.c) ∧ Hid (Below w3.heap.size w3 W))
              (first | (with_reducible assumption) | (with_reducible exact KD.out) | (with_reducible exact kf_next b1 (by assumption)))
              (first | (go_at_call 79; (with_reducible refine Calls.mono (CB.out _ ?_) ?_); (with_reducible assumption); rintro e w' ⟨rfl, b1⟩))
            rename_i hHeld
            have W4 := Lib.hid hHeld.2.2.2.2.2.2.2.out
            clear hHeld
            rename World => w4
            have OW := Lib.hid (O3.out.below W4.out)
            have BW : Hid (Below (h + 1) w1 w4) := Lib.hid (B3.out.trans (W4.out.mono Z3.out))
            have ZX : Hid (h + 1 ≤ w4.heap.size) := Lib.hid (Nat.le_trans Z3.out W4.out.size)
            go_wp2_with fail
            exact ⟨⟨a + 1, A, [], c', rfl, Nat.zero_le _, by first | (rw [PN.out]; done) | (rw [PN.out]; simp [OP.out]), by go_num, by omega, by omega, Lib.hid (Bh.next (W := w4) ⟨OW.out, Its.nil _ _, M3.out, BW.out⟩ (by first | exact below_drewN _ w4 _ | exact (below_drewN _ w4 _).trans (below_drewN _ _ _) | exact Below.refl _ _) ZX.out)⟩, by simp [intOf]; omega⟩
      · by_cases hea : e = a
        · subst hea
          obtain ⟨M1, M2⟩ := H.out.lft.hit
          rw [M1] at PN
          have M3 := Lib.hid M2
          obtain ⟨b, off, rfl, hc0, _⟩ := H.out.its 0 (by simp)
          have hc1 : w1.cell? ⟨b, off, none⟩ = some (.int .i64 (e : Int)) := hc0
          have C1 := Lib.hid hc1
          clear M1 M2 hc0 hc1
          cases op : opn G E e
          · have OP := Lib.hid op
            have RX : Hid (rng (e + 1) (opn G E) = rng e (opn G E)) := Lib.hid (by rw [RN.out, op]; rfl)
            clear op
            have hc1 := Ck.of_below HB.out _ _ _ C1.out
            go_wp2_with fail
            go_quiet (fail)
            go_wp2_with fail
            exact ⟨⟨e + 1, _, t, (c' - 1), rfl, by simp at hcc ⊢; omega, by first | (rw [PN.out]; done) | (rw [PN.out]; simp [OP.out]), by go_num, by omega, by omega, Lib.hid (Bh.next (W := wr) ⟨by rw [RX.out]; exact H.out.own, its_cut H.out.its hcc, M3.out, H.out.bel⟩ (below_drewN wr.heap.size wr _) SZ.out)⟩, by simp [intOf]; omega⟩
          · have OP := Lib.hid op
            have RX : Hid (rng (e + 1) (opn G E) = rng e (opn G E) ++ [e]) := Lib.hid (by rw [RN.out, op]; rfl)
            clear op
            go_wp2_with ((with_reducible show wpList _ _ _ (Oper.mk (some 28) _ _ _ _ _ :: _) _ _); refine wp_appn1 (.tmp 25) (.tmp 27) _ rfl rfl (h + 1) _ (rng e (opn G E)) rfl (H.out.own.below (bal _ _)) _ rfl e (by simp [go_sem]) (by have := RL.out; omega) (Nat.le_trans SZ.out (bal _ _).size) ((rng e (opn G E)).length + 1) rfl ?_; intro A4 c4 w3 hO hb; have O3 := Lib.hid (show OwnZ w3 (h + 1) (.slice A4 ((rng e (opn G E)).length + 1) c4) (rng (e + 1) (opn G E)) by rw [RX.out]; exact hO); have L3 := Lib.hid (((bal wr _).mono SZ.out).trans hb); clear hO hb)
            have B3 : Hid (Below (h + 1) w1 w3) := Lib.hid (H.out.bel.trans L3.out)
            have Z3 : Hid (h + 1 ≤ w3.heap.size) := Lib.hid (Nat.le_trans SZ.out L3.out.size)
            have D3 : Hid (Below w1.heap.size w1 w3) := Lib.hid (by rw [Z0.out]; exact B3.out)
            have k3 := Ck.of_below D3.out
            have z4 := k3 _ _ _ X4.out
            simp only [Nat.zero_add] at z4
            have hc3 := k3 _ _ _ C1.out
            cases y
            · have hc4 : ∀ n, (w3.drewN n).cell? ⟨b, off, none⟩ = some (.int .i64 (e : Int)) := fun n => Ck.of_below (below_drewN w3.heap.size w3 n) _ _ _ hc3
              go_quiet (fail)
              go_wp2_with fail
              go_quiet (fail)
              go_wp2_with fail
              exact ⟨⟨e + 1, _, t, (c' - 1), rfl, by simp at hcc ⊢; omega, by first | (rw [PN.out]; done) | (rw [PN.out]; simp [OP.out]), by go_num, by omega, by omega, Lib.hid (Bh.next (W := w3) ⟨O3.out, its_cut H.out.its hcc, M3.out, B3.out⟩ (by first | exact below_drewN _ w3 _ | exact (below_drewN _ w3 _).trans (below_drewN _ _ _) | exact Below.refl _ _) Z3.out)⟩, by simp [intOf]; omega⟩
            · have K3 : Kf w3 w3 h S.s rb ro S.R.length S.rC e true x2 t2 a2 n2 c2 (S.R.getD e lz).t (S.R.getD e lz).a (S.R.getD e lz).n (S.R.getD e lz).c := ⟨z4, (by have := k3 _ _ _ X5.out; simpa using this), (by have := k3 _ _ _ X6.out; simpa using this), (by have := k3 _ _ _ X7.out; simpa using this), k3 _ _ _ H2.out, k3 _ _ _ V3.out, k3 _ _ _ V4.out, Lib.hid (Below.refl _ _)⟩
              have KD := Lib.hid (kf_drew K3)
              have CB := Lib.hid (fun W (K : Kf w3 W h S.s rb ro S.R.length S.rC e true x2 t2 a2 n2 c2 (S.R.getD e lz).t (S.R.getD e lz).a (S.R.getD e lz).n (S.R.getD e lz).c) => CA.out W (by have := K.2.2.2.2.2.2.2.out; exact D3.out.trans (this.mono D3.out.size)))
              obtain ⟨q0, q1, q2, q3, q4, q5, q6, _⟩ := K3
              generalize S.R.getD e lz = ev at q5 q6 CB KD
              go_region_held3 (fun W => W.cell? ⟨h, 4, none⟩ = some (.bool true) ∧ W.cell? ⟨h, 5, none⟩ = some (.bool x2) ∧ W.cell? ⟨h, 6, none⟩ = some (.int .u8 t2) ∧ W.cell? ⟨h, 7, none⟩ = some (.slice a2 n2 c2) ∧ W.cell? ⟨S.s, 2, none⟩ = some (.slice (some ⟨rb, ro, none⟩) S.R.length S.rC) ∧ W.cell? ⟨rb, ro + e * 5 + 3, none⟩ = some (.int .u8 ev.t) ∧ W.cell? ⟨rb, ro + e * 5 + 4, none⟩ = some (.slice ev.a ev.n ev.c) ∧ Hid (Below w3.heap.size w3 W))
                (first | (with_reducible assumption) | (with_reducible exact KD.out) | (with_reducible exact kf_next b1 (by assumption)))
                (first | (go_at_call 79; (with_reducible refine Calls.mono (CB.out _ ?_) ?_); (with_reducible assumption); rintro e w' ⟨rfl, b1⟩))
              rename_i hHeld
              have W4 := Lib.hid hHeld.2.2.2.2.2.2.2.out
              clear hHeld
              rename World => w4
              have hc4 := Ck.of_below W4.out _ _ _ hc3
              have OW := Lib.hid (O3.out.below W4.out)
              have BW : Hid (Below (h + 1) w1 w4) := Lib.hid (B3.out.trans (W4.out.mono Z3.out))
              have ZX : Hid (h + 1 ≤ w4.heap.size) := Lib.hid (Nat.le_trans Z3.out W4.out.size)
              go_wp2_with fail
              go_quiet (fail)
              go_wp2_with fail
              exact ⟨⟨e + 1, _, t, (c' - 1), rfl, by simp at hcc ⊢; omega, by first | (rw [PN.out]; done) | (rw [PN.out]; simp [OP.out]), by go_num, by omega, by omega, Lib.hid (Bh.next (W := w4) ⟨OW.out, its_cut H.out.its hcc, M3.out, BW.out⟩ (by first | exact below_drewN _ w4 _ | exact (below_drewN _ w4 _).trans (below_drewN _ _ _) | exact Below.refl _ _) ZX.out)⟩, by simp [intOf]; omega⟩
        · obtain ⟨M1, M2⟩ := H.out.lft.miss (fun e' t' h => by injection h with h1 h2; subst h1; exact hea)
          rw [M1] at PN
          have M3 := Lib.hid M2
          obtain ⟨b, off, rfl, hc0, _⟩ := H.out.its 0 (by simp)
          have hc1 : w1.cell? ⟨b, off, none⟩ = some (.int .i64 (e : Int)) := hc0
          have C1 := Lib.hid hc1
          have hne : ((e : Int) == (a : Int)) = false := by simp; omega
          clear M1 M2 hc0 hc1
          cases op : opn G E a
          · have OP := Lib.hid op
            have RX : Hid (rng (a + 1) (opn G E) = rng a (opn G E)) := Lib.hid (by rw [RN.out, op]; rfl)
            clear op
            have hc1 := Ck.of_below HB.out _ _ _ C1.out
            go_wp2_with fail
            exact ⟨⟨a + 1, (some ⟨b, off, none⟩), (e :: t), c', rfl, hcc, by first | (rw [PN.out]; done) | (rw [PN.out]; simp [OP.out]), by go_num, by omega, by omega, Lib.hid (Bh.next (W := wr) ⟨by rw [RX.out]; exact H.out.own, H.out.its, M3.out, H.out.bel⟩ (Below.refl _ _) SZ.out)⟩, by simp [intOf]; omega⟩
          · have OP := Lib.hid op
            have RX : Hid (rng (a + 1) (opn G E) = rng a (opn G E) ++ [a]) := Lib.hid (by rw [RN.out, op]; rfl)
            clear op
            go_wp2_with ((with_reducible show wpList _ _ _ (Oper.mk (some 28) _ _ _ _ _ :: _) _ _); refine wp_appn1 (.tmp 25) (.tmp 27) _ rfl rfl (h + 1) _ (rng a (opn G E)) rfl (H.out.own.below (bal _ _)) _ rfl a (by simp [go_sem]) (by have := RL.out; omega) (Nat.le_trans SZ.out (bal _ _).size) ((rng a (opn G E)).length + 1) rfl ?_; intro A4 c4 w3 hO hb; have O3 := Lib.hid (show OwnZ w3 (h + 1) (.slice A4 ((rng a (opn G E)).length + 1) c4) (rng (a + 1) (opn G E)) by rw [RX.out]; exact hO); have L3 := Lib.hid (((bal wr _).mono SZ.out).trans hb); clear hO hb)
            have B3 : Hid (Below (h + 1) w1 w3) := Lib.hid (H.out.bel.trans L3.out)
            have Z3 : Hid (h + 1 ≤ w3.heap.size) := Lib.hid (Nat.le_trans SZ.out L3.out.size)
            have D3 : Hid (Below w1.heap.size w1 w3) := Lib.hid (by rw [Z0.out]; exact B3.out)
            have k3 := Ck.of_below D3.out
            have z4 := k3 _ _ _ X4.out
            simp only [Nat.zero_add] at z4
            have hc3 := k3 _ _ _ C1.out
            cases y
            · have hc4 : ∀ n, (w3.drewN n).cell? ⟨b, off, none⟩ = some (.int .i64 (e : Int)) := fun n => Ck.of_below (below_drewN w3.heap.size w3 n) _ _ _ hc3
              go_quiet (fail)
              go_wp2_with fail
              exact ⟨⟨a + 1, (some ⟨b, off, none⟩), (e :: t), c', rfl, hcc, by first | (rw [PN.out]; done) | (rw [PN.out]; simp [OP.out]), by go_num, by omega, by omega, Lib.hid (Bh.next (W := w3) ⟨O3.out, H.out.its, M3.out, B3.out⟩ (by first | exact below_drewN _ w3 _ | exact (below_drewN _ w3 _).trans (below_drewN _ _ _) | exact Below.refl _ _) Z3.out)⟩, by simp [intOf]; omega⟩
            · have K3 : Kf w3 w3 h S.s rb ro S.R.length S.rC a true x2 t2 a2 n2 c2 (S.R.getD a lz).t (S.R.getD a lz).a (S.R.getD a lz).n (S.R.getD a lz).c := ⟨z4, (by have := k3 _ _ _ X5.out; simpa using this), (by have := k3 _ _ _ X6.out; simpa using this), (by have := k3 _ _ _ X7.out; simpa using this), k3 _ _ _ H2.out, k3 _ _ _ V3.out, k3 _ _ _ V4.out, Lib.hid (Below.refl _ _)⟩
              have KD := Lib.hid (kf_drew K3)
              have CB := Lib.hid (fun W (K : Kf w3 W h S.s rb ro S.R.length S.rC a true x2 t2 a2 n2 c2 (S.R.getD a lz).t (S.R.getD a lz).a (S.R.getD a lz).n (S.R.getD a lz).c) => CA.out W (by have := K.2.2.2.2.2.2.2.out; exact D3.out.trans (this.mono D3.out.size)))
              obtain ⟨q0, q1, q2, q3, q4, q5, q6, _⟩ := K3
              generalize S.R.getD a lz = ev at q5 q6 CB KD
              go_region_held3 (fun W => W.cell? ⟨h, 4, none⟩ = some (.bool true) ∧ W.cell? ⟨h, 5, none⟩ = some (.bool x2) ∧ W.cell? ⟨h, 6, none⟩ = some (.int .u8 t2) ∧ W.cell? ⟨h, 7, none⟩ = some (.slice a2 n2 c2) ∧ W.cell? ⟨S.s, 2, none⟩ = some (.slice (some ⟨rb, ro, none⟩) S.R.length S.rC) ∧ W.cell? ⟨rb, ro + a * 5 + 3, none⟩ = some (.int .u8 ev.t) ∧ W.cell? ⟨rb, ro + a * 5 + 4, none⟩ = some (.slice ev.a ev.n ev.c) ∧ Hid (Below w3.heap.size w3 W))
                (first | (with_reducible assumption) | (with_reducible exact KD.out) | (with_reducible exact kf_next b1 (by assumption)))
                (first | (go_at_call 79; (with_reducible refine Calls.mono (CB.out _ ?_) ?_); (with_reducible assumption); rintro e w' ⟨rfl, b1⟩))
              rename_i hHeld
              have W4 := Lib.hid hHeld.2.2.2.2.2.2.2.out
              clear hHeld
              rename World => w4
              have hc4 := Ck.of_below W4.out _ _ _ hc3
              have OW := Lib.hid (O3.out.below W4.out)
              have BW : Hid (Below (h + 1) w1 w4) := Lib.hid (B3.out.trans (W4.out.mono Z3.out))
              have ZX : Hid (h + 1 ≤ w4.heap.size) := Lib.hid (Nat.le_trans Z3.out W4.out.size)
              go_wp2_with fail
              exact ⟨⟨a + 1, (some ⟨b, off, none⟩), (e :: t), c', rfl, hcc, by first | (rw [PN.out]; done) | (rw [PN.out]; simp [OP.out]), by go_num, by omega, by omega, Lib.hid (Bh.next (W := w4) ⟨OW.out, H.out.its, M3.out, BW.out⟩ (by first | exact below_drewN _ w4 _ | exact (below_drewN _ w4 _).trans (below_drewN _ _ _) | exact Below.refl _ _) ZX.out)⟩, by simp [intOf]; omega⟩
    · obtain rfl : a = o := by omega
      go_wp2_with fail
      go_ret
      exact ⟨⟨_, rfl, H.out.own.sl⟩, B1.out.trans ((H.out.bel).mono (by omega))⟩
end Go.Proofs.YtccjflioaajgiaaGreatDoor
