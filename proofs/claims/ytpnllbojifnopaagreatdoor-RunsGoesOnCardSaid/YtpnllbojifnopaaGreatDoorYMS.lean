/- Contracts, joined: EvOwn, DnX, DnY, DnZ. -/
import Derived.Test.YtpnllbojifnopaaGreatDoorME
import Derived.Lib.MinMax
import Derived.Test.YtpnllbojifnopaaGreatDoorYMLV
import Derived.Laws.StructEq
namespace Go.Proofs.YtpnllbojifnopaaGreatDoor
open Go Go.RowKit Pk Rl
set_option maxRecDepth 20000
def gsum (L : List VV) : Nat := (L.map fun v => min v.2.2.2.size 3000).sum
def egr (L : List VV) : Bool := decide (40 < L.length) || decide (3000 < L.length + gsum L)
theorem gsum_snoc (L : List VV) (j : Nat) (h : j < L.length) : gsum (L.take (j + 1)) = gsum (L.take j) + min (L.getD j vz).2.2.2.size 3000 := by
  rw [take_snoc L j h]; simp [gsum]
set_option maxHeartbeats 1000000 in
theorem great_any (t : Int) (a : Option Addr) (n c : Nat) (L : List VV) (w : World) (hn : L.length = n) (hm : n ≤ 1000) (hv : Vals w a L) (hz : ∀ v ∈ L, v.2.2.2.size ≤ maxLen) :
    Calls Tryz.prog 55 #[ev t a n c] w fun e w' => e = .returned (.bool (egr L)) ∧ Below w.heap.size w w' := by
  have E0 := Lib.hid (Evt.alloc w t a n c)
  have B0 := Lib.hid (below_alloc w (ecells t a n c))
  have HN := Lib.hid hn
  have HV := Lib.hid hv
  have HZ := Lib.hid hz
  have Q1 := Lib.hid (show 40 < n → egr L = true from fun h => by unfold egr; rw [hn, decide_eq_true h]; rfl)
  have Q2 := Lib.hid (show ¬ 40 < n → egr L = decide (3000 < n + gsum L) from fun h => by unfold egr; rw [hn, decide_eq_false h]; rfl)
  clear hn hv hz
  by_cases c40 : 40 < n
  · go_enter Tryz.func55, Tryz.ntmps55
    go_wp2
    go_ret
    exact ⟨ret_bool (Q1.out c40).symm, B0.out⟩
  · go_enter Tryz.func55, Tryz.ntmps55
    go_wp2
    go_loopw [13, 3] (fun i s W => ∃ (j g : Nat), i = .int .i64 j ∧ s = .int .i64 ((n : Int) + (g : Int)) ∧ j ≤ n ∧ g ≤ j * 3000 ∧ Hid (Evt W w.heap.size t a n c ∧ Below w.heap.size w W ∧ gsum (L.take j) = g)) (fun i _ _ => n - (intOf i).toNat)
    case atStart => exact ⟨0, 0, rfl, by simp, by omega, by omega, Lib.hid ⟨E0.out, B0.out, rfl⟩⟩
    case round =>
      obtain ⟨j, g, rfl, rfl, hj, hg, H⟩ := hrel
      obtain ⟨e0, e1⟩ := H.out.1
      by_cases c1 : j < n
      · obtain ⟨b, off, rfl, c0, c1, c2, c3⟩ := (HV.out.below H.out.2.1) j (by have := HN.out; omega)
        have GS := Lib.hid (gsum_snoc L j (by have := HN.out; omega))
        have hs := HZ.out _ (getD_mem L j (by have := HN.out; omega))
        rw [H.out.2.2] at GS
        generalize L.getD j vz = v at GS c0 c1 c2 c3 hs
        obtain ⟨k, m, r, s⟩ := v
        have B1 := Lib.hid H.out.2.1
        have E1 := Lib.hid H.out.1
        unfold maxLen at hs
        clear H
        have hmin : min (s.size : Int) 3000 = ((min s.size 3000 : Nat) : Int) := by omega
        obtain ⟨p, hp⟩ : ∃ p, min s.size 3000 = p := ⟨_, rfl⟩
        rw [hp] at hmin
        have hp2 : p ≤ 3000 := by omega
        have GS' : Hid (gsum (L.take (j + 1)) = g + p) := Lib.hid (by rw [← hp]; exact GS.out)
        clear GS
        go_wp2_with fail
        go_roundw
        case rel => exact ⟨j + 1, g + p, by go_num, by go_num, by omega, by omega, Lib.hid ⟨E1.out, B1.out, GS'.out⟩⟩
        case measure => simp [intOf]; omega
      · obtain rfl : j = n := by omega
        have B1 := Lib.hid H.out.2.1
        have GS := Lib.hid H.out.2.2
        rw [List.take_of_length_le (by have := HN.out; omega)] at GS
        clear H
        go_wp2_with fail
        go_ret
        exact ⟨ret_bool (by rw [Q2.out c40, GS.out, Bool.eq_iff_iff]; simp; omega), B1.out⟩
end Go.Proofs.YtpnllbojifnopaaGreatDoor
namespace Go.Proofs.YtpnllbojifnopaaGreatDoor
open Go Go.RowKit Go.Maps Pk Rl
set_option maxRecDepth 20000
structure Hp where
  af : Nat
  t : Int
  a : Option Addr
  n : Nat
  c : Nat
  L : List VV
abbrev hz : Hp := ⟨0, 0, none, 0, 0, []⟩
structure Hok (w : World) (x : Hp) : Prop where
  len : x.L.length = x.n
  few : x.n ≤ maxLen
  row : Raws w x.a x.L
  ok : ∀ v ∈ x.L, Okv v
  sz : ∀ v ∈ x.L, v.2.2.2.size ≤ maxLen
  u32 : x.af < 4294967296
structure Hps (w : World) (A : Option Addr) (H : List Hp) : Prop where
  row : ∀ i, i < H.length → ∃ b off, A = some ⟨b, off, none⟩ ∧ w.cell? ⟨b, off + i * 3, none⟩ = some (.int .u32 ((H.getD i hz).af : Int)) ∧ w.cell? ⟨b, off + i * 3 + 1, none⟩ = some (.int .u8 (H.getD i hz).t) ∧ w.cell? ⟨b, off + i * 3 + 2, none⟩ = some (.slice (H.getD i hz).a (H.getD i hz).n (H.getD i hz).c)
  ok : ∀ x ∈ H, Hok w x
theorem Hok.below {w w' : World} {x : Hp} (h : Hok w x) (k : Below w.heap.size w w') : Hok w' x := ⟨h.len, h.few, h.row.below k, h.ok, h.sz, h.u32⟩
theorem hgetD_mem (H : List Hp) (k : Nat) (h : k < H.length) : H.getD k hz ∈ H := by
  rw [List.getD_eq_getElem?_getD, List.getElem?_eq_getElem h]; exact List.getElem_mem _
def lcl (x : Lg) : List Value := [.int .u32 x.pub, .int .u64 x.seq, .int .u64 (x.at_ : Int), .int .u8 x.t, .slice x.a x.n x.c]
def lcls (R : List Lg) : List Value := R.flatMap lcl
theorem lcls_app (L M : List Lg) : lcls (L ++ M) = lcls L ++ lcls M := by unfold lcls; rw [List.flatMap_append]
theorem lcls_get (L : List Lg) (i : Nat) (hi : i < L.length) (j : Nat) (hj : j < 5) : (lcls L)[i * 5 + j]? = (lcl (L.getD i lz))[j]? := by
  induction L generalizing i with
  | nil => simp at hi
  | cons v L ih =>
    show (lcl v ++ lcls L)[i * 5 + j]? = _
    have h4 : (lcl v).length = 5 := rfl
    rcases i with _ | i
    · rw [List.getElem?_append_left (by omega)]; simp
    · rw [List.getElem?_append_right (by omega), h4, show (i + 1) * 5 + j - 5 = i * 5 + j by omega, ih i (by simpa using hi)]; simp
structure Lw (w : World) (B : Nat) (x : Lg) : Prop where
  own : OwnV w B (.slice x.a x.n x.c) x.E
  len : x.E.length = x.n
  few : x.n ≤ 30
  ok : ∀ v ∈ x.E, Okv v
  sz : ∀ v ∈ x.E, v.2.2.2.size ≤ maxLen
  at64 : x.at_ < 18446744073709551616
structure OwnLg (w : World) (B : Nat) (v : Value) (R : List Lg) : Prop where
  own : w.ownsRow B 81 5 v R.length (lcls R)
  ev : ∀ x ∈ R, Lw w B x
theorem OwnLg.nil (w : World) (B : Nat) : OwnLg w B nsl [] := ⟨World.ownsRow_nil w B 81 5, by simp⟩
theorem Lw.below {w w' : World} {B : Nat} {x : Lg} (h : Lw w B x) (hb : Below w.heap.size w w') : Lw w' B x := ⟨h.own.below hb, h.len, h.few, h.ok, h.sz, h.at64⟩
theorem OwnLg.below {w w' : World} {B : Nat} {v : Value} {R : List Lg} (h : OwnLg w B v R) (hb : Below w.heap.size w w') : OwnLg w' B v R := by
  refine ⟨⟨h.own.1, ?_⟩, fun x hx => (h.ev x hx).below hb⟩
  rcases h.own.2 with h0 | ⟨g, cap, cur, hv, hg, hh, r⟩
  · exact .inl h0
  · exact .inr ⟨g, cap, cur, hv, hg, by rw [hb.block g (Array.getElem?_eq_some_iff.1 hh).1]; exact hh, r⟩
theorem OwnLg.form {w : World} {B : Nat} {v : Value} {R : List Lg} (h : OwnLg w B v R) : ∃ A c, v = .slice A R.length c ∧ (A = none → c = 0) ∧ R.length ≤ c ∧ Lr w A R := by
  have hok : ∀ x ∈ R, Lok w x := fun x hx => by
    have k := h.ev x hx
    exact ⟨k.len, by have := k.few; omega, k.own.vals, k.ok, k.at64⟩
  rcases h.own.2 with ⟨rfl, h0⟩ | ⟨g, cap, cur, rfl, _, _, hc, _⟩
  · have : R = [] := List.eq_nil_of_length_eq_zero h0
    subst this
    exact ⟨none, 0, rfl, fun _ => rfl, Nat.le_refl _, ⟨fun i hi => absurd hi (by simp), hok⟩⟩
  · refine ⟨_, _, rfl, (fun e => by cases e), hc, ⟨fun i hi => ⟨g, 0, rfl, ?_⟩, hok⟩⟩
    have key : ∀ j u, j < 5 → (lcl (R.getD i lz))[j]? = some u → w.cell? ⟨g, 0 + i * 5 + j, none⟩ = some u := fun j u hj hu => by
      have := World.ownsRow.cells h.own (g := g) rfl (i * 5 + j) u (by rw [lcls_get R i hi j hj]; exact hu)
      rwa [add_plain, ← Nat.add_assoc] at this
    exact ⟨key 0 _ (by omega) rfl, key 1 _ (by omega) rfl, key 2 _ (by omega) rfl, key 3 _ (by omega) rfl, key 4 _ (by omega) rfl⟩
theorem infoLg : ∃ i z, Tryz.prog.info? 81 = some i ∧ i.zero = some z ∧ i.size = 5 ∧ i.bytes ≤ 1000 ∧ z.cells.size = 5 :=
  ⟨(Tryz.prog.info? 81).get (by kernel_rfl), .agg #[.int .u32 0, .int .u64 0, .int .u64 0, .int .u8 0, .slice none 0 0], by kernel_rfl, by kernel_rfl, by kernel_rfl, of_decide_eq_true (by kernel_rfl), rfl⟩
theorem OwnV.grownT {w w' : World} {B : Nat} {v y : Value} {L : List VV} {n k : Nat} {cs : List Value} {T : TypeId} (hT : T ≠ 168) (h : OwnV w B v L) (hy : w.ownsRow B T k y n cs) (hg : w.grownBy w' y.ownBlock) : OwnV w' B v L := by
  refine ⟨h.1, ?_⟩
  rcases h.2 with h0 | ⟨g, cap, cur, hv, hgB, hh, r⟩
  · exact .inl h0
  · refine .inr ⟨g, cap, cur, hv, hgB, ?_, r⟩
    rw [hg.block g (Array.getElem?_eq_some_iff.1 hh).1 ?_]
    · exact hh
    · intro e
      rcases hy.2 with ⟨hv', _⟩ | ⟨g', cap', cur', hv', _, hh', _⟩
      · rw [hv'] at e; cases e
      · rw [hv'] at e
        have e2 : some g = some g' := e
        injection e2 with e3
        subst e3
        rw [hh] at hh'
        injection hh' with e4
        injection e4 with _ e5 _
        exact hT e5.symm
theorem wp_appLg {ops : Array Oper} {rest : List Oper} {o : Oper} {a : Act} {Q : Exit → Act → World → Prop} (s x : Operand) (w : World) (hgd : o.guard = none)
    (hop : o.op = .call { callee := .builtin .append, args := #[s, x], argTypes := #[52, 52] })
    (B : Nat) (v : Value) (R : List Lg) (hs : a.eval s = v) (ho : OwnLg w B v R) (b : Nat) (hx : a.eval x = .slice (some ⟨b, 0, none⟩) 1 1) (e : Lg) (hc : Atl w b 0 e) (he : Lw w B e)
    (hlen : R.length ≤ 1000000) (hB : B ≤ w.heap.size) (k : Nat) (hk : R.length + 1 = k)
    (h : ∀ A' c' w', OwnLg w' B (.slice A' k c') (R ++ [e]) → Below B w w' → wpList Tryz.prog ops Q rest (a.put o.dst (.slice A' k c')) w') : wpList Tryz.prog ops Q (o :: rest) a w := by
  refine wpList_plain hgd fun K hK => ?_
  obtain ⟨i, z, hi, hz, hsz, hy, hzs⟩ := infoLg
  obtain ⟨v', w', hrun, r2, r3, _, _⟩ := run_append_own_at (P := Tryz.prog) w B 52 o.type 81 i z 5 i.bytes Tryz.underlying52 hi hz hsz rfl hzs (by omega) v R.length (lcls R) ho.own ⟨b, 0, none⟩ 1 1 (lcl e) rfl
    (fun j u hj => by
      rw [add_plain, Nat.zero_add]
      obtain ⟨h0, h1, h2, h3, h4⟩ := hc
      simp only [Nat.zero_add] at h0 h1 h2 h3 h4
      rcases j with _ | _ | _ | _ | _ | j
      · rw [h0]; simpa [lcl] using hj
      · rw [h1]; simpa [lcl] using hj
      · rw [h2]; simpa [lcl] using hj
      · rw [h3]; simpa [lcl] using hj
      · rw [h4]; simpa [lcl] using hj
      · simp [lcl] at hj)
    (fun u hu => by simp [lcl] at hu; rcases hu with rfl | rfl | rfl | rfl | rfl <;> rfl) (by unfold maxLen; omega) (by
      have : (R.length + 1) * i.bytes ≤ 1000001 * 1000 := Nat.mul_le_mul (by omega) hy
      omega) hB
  have hO : OwnLg w' B v' (R ++ [e]) := by
    refine ⟨?_, fun x hx => ?_⟩
    · rw [List.length_append, lcls_app]
      simpa [lcls] using r2
    · have hxx : Lw w B x := by
        rcases List.mem_append.1 hx with h1 | h1
        · exact ho.ev x h1
        · rw [List.mem_singleton] at h1; rw [h1]; exact he
      exact ⟨hxx.own.grownT (by decide) ho.own r3, hxx.len, hxx.few, hxx.ok, hxx.sz, hxx.at64⟩
  obtain ⟨A', c', rfl, _⟩ := hO.form
  have ek : (R ++ [e]).length = k := by rw [List.length_append, List.length_singleton, hk]
  rw [ek] at hO hrun
  unfold Oper.wp
  simp [execOp, hop, resolve, invoke, builtin, hs, hx, hrun, Result.andThen]
  exact hK _ _ (h A' c' w' hO ((Below.refl _ _).grown r3 hB (fun k hk => (World.ownsRow.lt ho.own k hk).1)))
set_option maxHeartbeats 4000000 in
theorem events_any (hA : Option Addr) (hN hC : Nat) (H : List Hp) (most : Nat) (w : World) (hH : Hps w hA H) (hn : H.length = hN) (hm : most ≤ 100) (hl : hN ≤ maxLen) :
    Calls Tryz.prog 18 #[.slice hA hN hC, .int .i64 (most : Int)] w fun e w' => (∃ A c R, e = .returned (.slice A R.length c) ∧ R.length ≤ most ∧ OwnLg w' w.heap.size (.slice A R.length c) R) ∧ Below w.heap.size w w' := by
  have HH := Lib.hid hH
  subst hn
  unfold maxLen at hl
  clear hH
  go_enter Tryz.func18, Tryz.ntmps18
  go_wp2_with fail
  go_loopw [5, 6, 11] (fun v av t W => ∃ (k at_ : Nat) (A : Option Addr) (c : Nat) (R : List Lg), k ≤ H.length ∧ k ≤ most ∧ at_ ≤ k * 4294967296 ∧ t = .int .i64 (k : Int) ∧ av = .int .u64 (at_ : Int) ∧ v = .slice A k c ∧ Hid (OwnLg W w.heap.size (.slice A k c) R ∧ Below w.heap.size w W ∧ R.length = k)) (fun _ _ t _ => H.length - (intOf t).toNat)
  case atStart => exact ⟨0, 0, none, 0, [], Nat.zero_le _, Nat.zero_le _, by omega, rfl, rfl, rfl, Lib.hid ⟨OwnLg.nil _ _, Below.refl _ _, rfl⟩⟩
  case round =>
    obtain ⟨k, at_, A, c, R, hk, hkm, hat, rfl, rfl, rfl, I⟩ := hrel
    by_cases hlt : k < H.length
    · obtain ⟨b, off, rfl, f0, f1, f2⟩ := HH.out.row k hlt
      have ck := Ck.of_below I.out.2.1
      have g0 := ck _ _ _ f0
      have g1 := ck _ _ _ f1
      have g2 := ck _ _ _ f2
      have OK := Lib.hid (HH.out.ok _ (hgetD_mem H k hlt))
      generalize H.getD k hz = x at g0 g1 g2 OK
      have hu := OK.out.u32
      clear f0 f1 f2 ck
      by_cases hmo : k < most
      · have hx0 : Hid (∀ o : Obj, Calls Tryz.prog 54 #[ev x.t x.a x.n x.c] (wr.alloc o) fun e w' => ∃ A k c', e = .returned (ev x.t A k c') ∧ (x.L.take 30).length = k ∧ OwnV w' (wr.alloc o).heap.size (.slice A k c') (x.L.take 30) ∧ Below (wr.alloc o).heap.size (wr.alloc o) w') := Lib.hid (fun o => event_any x.t x.a x.n x.c x.L (wr.alloc o) OK.out.len OK.out.few ((OK.out.row.below I.out.2.1).below (bal wr o)))
        go_wp2_with fail
        refine (hx0.out _).mono ?_
        rintro e w3 ⟨A6, k6, c6, rfl, hl6, hO6, hb6⟩
        have SZ := Lib.hid I.out.2.1.size
        have B3 := Lib.hid ((I.out.2.1.trans ((bal wr (.cells #[.int .u32 (x.af : Int), .int .u8 x.t, .slice x.a x.n x.c] 140)).mono I.out.2.1.size)).trans (hb6.mono (by have := I.out.2.1.size; simp; omega)))
        have O3 := Lib.hid ((I.out.1.below (bal wr (.cells #[.int .u32 (x.af : Int), .int .u8 x.t, .slice x.a x.n x.c] 140))).below hb6)
        have E3 : Hid (∀ o, Lw (w3.alloc o) w.heap.size ⟨1, (k : Int), at_ + x.af, x.t, A6, k6, c6, x.L.take 30⟩) := Lib.hid (fun o => ⟨(hO6.mono (by have := I.out.2.1.size; simp; omega)).below (bal w3 o), hl6, by rw [← hl6, List.length_take]; exact Nat.min_le_left _ _, fun v hv => OK.out.ok v (List.mem_of_mem_take hv), fun v hv => OK.out.sz v (List.mem_of_mem_take hv), by show at_ + x.af < _; omega⟩)
        have z0 := Ck.of_below hb6 wr.heap.size 0 (.int .u32 (x.af : Int)) (by simp [go_sem])
        have RK := Lib.hid I.out.2.2
        clear hO6 hb6 hx0 I
        go_wp2_with ((with_reducible show wpList _ _ _ (Oper.mk (some 33) _ _ _ _ _ :: _) _ _); refine wp_appLg (.tmp 24) (.tmp 32) _ rfl rfl w.heap.size _ R rfl (O3.out.below (bal _ _)) _ rfl ⟨1, (k : Int), at_ + x.af, x.t, A6, k6, c6, x.L.take 30⟩ (by refine ⟨?_, ?_, ?_, ?_, ?_⟩ <;> simp [go_sem]) (E3.out _) (by rw [RK.out]; omega) (Nat.le_trans B3.out.size (bal _ _).size) (k + 1) (by rw [RK.out]) ?_; intro A8 c8 w8 hO hb8; have N8 := Lib.hid (And.intro hO (B3.out.trans (((bal w3 _).mono B3.out.size).trans hb8))); clear hO hb8)
        have N9 := Lib.hid (And.intro N8.out.1 (And.intro N8.out.2 (show (R ++ [(⟨1, (k : Int), at_ + x.af, x.t, A6, k6, c6, x.L.take 30⟩ : Lg)]).length = k + 1 by rw [List.length_append, RK.out]; rfl)))
        exact ⟨⟨k + 1, at_ + x.af, A8, c8, _, by omega, by omega, by omega, by go_num, by go_num, rfl, N9⟩, by simp [intOf]; omega⟩
      · have BB := Lib.hid (bal wr (.cells #[.int .u32 (x.af : Int), .int .u8 x.t, .slice x.a x.n x.c] 140))
        have R9 := Lib.hid (And.intro (I.out.1.below BB.out) (I.out.2.1.trans (BB.out.mono I.out.2.1.size)))
        go_wp2_with fail
        go_ret
        have RK := I.out.2.2
        exact ⟨⟨_, _, R, by rw [RK]; rfl, by omega, by rw [RK]; exact R9.out.1⟩, R9.out.2⟩
    · obtain rfl : k = H.length := by omega
      go_wp2_with fail
      go_ret
      have RK := I.out.2.2
      exact ⟨⟨_, _, R, by rw [RK]; rfl, by omega, by rw [RK]; exact I.out.1⟩, I.out.2.1⟩
end Go.Proofs.YtpnllbojifnopaaGreatDoor
namespace Go.Proofs.YtpnllbojifnopaaGreatDoor
open Go Go.RowKit Go.Maps Pk Rl
set_option maxRecDepth 20000
theorem hSM : Tryz.prog.underlying 107 = some (.struct (Tryz.prog.fieldsOf 107)) := by kernel_rfl
theorem hpM : Tryz.prog.stoodInHeld 107 = false := by kernel_rfl
theorem hgM : Tryz.prog.eqGuardType Tryz.prog.depth 107 = false := by kernel_rfl
theorem mne (x y : Mt) (w : World) : (binOp .neq 107 (.agg #[.int .u64 (x.1 : Int), .int .u64 (x.2 : Int)]) (.agg #[.int .u64 (y.1 : Int), .int .u64 (y.2 : Int)])).run Tryz.prog w = .ok (.bool (decide (x ≠ y))) w := by
  have u3 := Tryz.underlying23
  have a3 := Tryz.isAgg23
  have z3 := Tryz.sizeOf23
  rw [run_neq_struct, show (10000 : Nat) = 9999 + 1 from rfl, run_equalIn_agg w 9999 107 _ _ hSM hpM]
  simp only [Program.fieldsOf, Tryz.underlying107]
  go_simp
  obtain ⟨x1, x2⟩ := x
  obtain ⟨y1, y2⟩ := y
  by_cases h1 : x1 = y1 <;> by_cases h2 : x2 = y2 <;> simp [h1, h2] <;> omega
set_option maxHeartbeats 2000000 in
theorem msame_any (A : Option Addr) (n c : Nat) (L : List Mt) (A' : Option Addr) (n' c' : Nat) (L' : List Mt) (w : World) (h : Mrs w A L) (h' : Mrs w A' L') (hn : L.length = n) (hn' : L'.length = n') (hm : n ≤ 100000000) (hm' : n' ≤ 100000000) :
    Calls Tryz.prog 30 #[.slice A n c, .slice A' n' c'] w fun e w' => e = .returned (.bool (decide (L = L'))) ∧ Below w.heap.size w w' := by
  by_cases hl : n = n'
  · subst hl
    have HH := Lib.hid h
    have HH' := Lib.hid h'
    have N1 := Lib.hid hn
    have N2 := Lib.hid hn'
    clear h h' hn hn'
    go_enter Tryz.func30, Tryz.ntmps30
    go_wp2_with fail
    go_loopw [13] (fun t W => ∃ k : Nat, k ≤ n ∧ t = .int .i64 (k : Int) ∧ Hid (Below w.heap.size w W ∧ L.take k = L'.take k)) (fun t _ => n - (intOf t).toNat)
    case atStart => exact ⟨0, Nat.zero_le _, rfl, Lib.hid ⟨Below.refl _ _, rfl⟩⟩
    case round =>
      obtain ⟨k, hk, rfl, I⟩ := hrel
      by_cases hlt : k < n
      · obtain ⟨b, off, rfl, f1, f2⟩ := HH.out k (by rw [N1.out]; exact hlt)
        obtain ⟨b', off', rfl, f3, f4⟩ := HH'.out k (by rw [N2.out]; exact hlt)
        have g1 : wr.cell? ⟨b, off + k * 2, none⟩ = some (.int .u64 ((gm L k).1 : Int)) := Ck.of_below I.out.1 _ _ _ f1
        have g2 : wr.cell? ⟨b, off + k * 2 + 1, none⟩ = some (.int .u64 ((gm L k).2 : Int)) := Ck.of_below I.out.1 _ _ _ f2
        have g3 : wr.cell? ⟨b', off' + k * 2, none⟩ = some (.int .u64 ((gm L' k).1 : Int)) := Ck.of_below I.out.1 _ _ _ f3
        have g4 : wr.cell? ⟨b', off' + k * 2 + 1, none⟩ = some (.int .u64 ((gm L' k).2 : Int)) := Ck.of_below I.out.1 _ _ _ f4
        clear f1 f2 f3 f4
        have TK : Hid (L.take (k + 1) = L.take k ++ [gm L k]) := Lib.hid (by rw [List.take_succ_eq_append_getElem (by rw [N1.out]; exact hlt), gm, List.getD_eq_getElem?_getD, List.getElem?_eq_getElem (by rw [N1.out]; exact hlt)]; rfl)
        have TK' : Hid (L'.take (k + 1) = L'.take k ++ [gm L' k]) := Lib.hid (by rw [List.take_succ_eq_append_getElem (by rw [N2.out]; exact hlt), gm, List.getD_eq_getElem?_getD, List.getElem?_eq_getElem (by rw [N2.out]; exact hlt)]; rfl)
        have DF : Hid (gm L k ≠ gm L' k → decide (L = L') = false) := Lib.hid (fun h => decide_eq_false (fun e => h (by rw [e])))
        have BW := Lib.hid I.out.1
        generalize gm L k = x at g1 g2 TK DF
        generalize gm L' k = y at g3 g4 TK' DF
        have hm := hgM
        have MN := mne x y
        go_wp2_with fail
        go_region
        have BD : Hid (Below w.heap.size w wr.drew) := Lib.hid BW.out.drew
        by_cases hxy : x = y
        · have e1 : decide (x = y) = true := decide_eq_true hxy
          rw [e1]
          go_wp2_with fail
          exact ⟨⟨k + 1, by omega, by go_num, Lib.hid ⟨BD.out, by rw [TK.out, TK'.out, I.out.2, hxy]⟩⟩, by simp [intOf]; omega⟩
        · have e1 : decide (x = y) = false := decide_eq_false hxy
          have E9 := Lib.hid (DF.out hxy)
          rw [e1]
          go_wp2_with fail
          go_ret
          exact ⟨by rw [E9.out]; rfl, BD.out⟩
      · obtain rfl : k = n := by omega
        have E9 : Hid (decide (L = L') = true) := Lib.hid (decide_eq_true (by
          have h8 := I.out.2
          rw [List.take_of_length_le (by rw [N1.out]; exact Nat.le_refl _), List.take_of_length_le (by rw [N2.out]; exact Nat.le_refl _)] at h8
          exact h8))
        go_wp2_with fail
        go_ret
        exact ⟨by rw [E9.out]; rfl, I.out.1⟩
  · have hne : ((n : Int) != (n' : Int)) = true := by simp; omega
    have E := Lib.hid (show decide (L = L') = false from decide_eq_false (fun e => hl (by rw [← hn, ← hn', e])))
    clear h h' hn hn'
    go_enter Tryz.func30, Tryz.ntmps30
    go_wp2_with fail
    go_ret
    exact ⟨by rw [E.out]; rfl, Below.refl _ _⟩
end Go.Proofs.YtpnllbojifnopaaGreatDoor
namespace Go.Proofs.YtpnllbojifnopaaGreatDoor
open Go Go.RowKit Go.Maps Pk Rl
set_option maxRecDepth 20000
def Szs (R : List Lg) : Prop := ∀ x ∈ R, ∀ v ∈ x.E, v.2.2.2.size ≤ maxLen
def lgr (R : List Lg) : Bool := R.any fun x => egr x.E
set_option maxHeartbeats 2000000 in
theorem lgreat_any (A : Option Addr) (n c : Nat) (R : List Lg) (w : World) (hR : Lr w A R) (hs : Szs R) (hn : R.length = n) (hm : n ≤ 1000) :
    Calls Tryz.prog 19 #[.slice A n c] w fun e w' => e = .returned (.bool (lgr R)) ∧ Below w.heap.size w w' := by
  have HR := Lib.hid hR
  have HS := Lib.hid hs
  have N1 := Lib.hid hn
  clear hR hs hn
  go_enter Tryz.func19, Tryz.ntmps19
  go_wp2_with fail
  go_loopw [7] (fun t W => ∃ k : Nat, k ≤ n ∧ t = .int .i64 (k : Int) ∧ Hid (Below w.heap.size w W ∧ lgr (R.drop k) = lgr R)) (fun t _ => n - (intOf t).toNat)
  case atStart => exact ⟨0, Nat.zero_le _, rfl, Lib.hid ⟨Below.refl _ _, rfl⟩⟩
  case round =>
    obtain ⟨k, hk, rfl, I⟩ := hrel
    by_cases hlt : k < n
    · obtain ⟨b, off, rfl, f0, f1, f2, f3, f4⟩ := HR.out.row k (by rw [N1.out]; exact hlt)
      have ck := Ck.of_below I.out.1
      have g0 := ck _ _ _ f0
      have g1 := ck _ _ _ f1
      have g2 := ck _ _ _ f2
      have g3 := ck _ _ _ f3
      have g4 := ck _ _ _ f4
      have hmem := lgetD_mem R k (by rw [N1.out]; exact hlt)
      have OK := Lib.hid (HR.out.ok _ hmem)
      have SZ := Lib.hid (HS.out _ hmem)
      have DC : Hid (lgr (R.drop k) = (egr (R.getD k lz).E || lgr (R.drop (k + 1)))) := Lib.hid (by rw [ldrop_cons R k (by rw [N1.out]; exact hlt)]; rfl)
      have BW := Lib.hid I.out.1
      have E0 := Lib.hid I.out.2
      generalize R.getD k lz = x at g0 g1 g2 g3 g4 OK SZ DC
      have C := Lib.hid (great_any x.t x.a x.n x.c x.E (wr.alloc (lobj x)) OK.out.len OK.out.few ((OK.out.ck (Ck.of_below (BW.out.trans ((bal wr (lobj x)).mono BW.out.size)))).row) SZ.out)
      have BX := Lib.hid (BW.out.trans ((bal wr (lobj x)).mono BW.out.size))
      generalize egr x.E = eg at C DC
      clear f0 f1 f2 f3 f4 ck hmem I
      go_wp2_with fail
      refine C.out.mono ?_
      rintro e w3 ⟨rfl, hb⟩
      have B3 := Lib.hid (BX.out.trans (hb.mono BX.out.size))
      clear hb C
      cases eg
      · have R0 : Hid (lgr (R.drop (k + 1)) = lgr R) := Lib.hid (by rw [← E0.out, DC.out]; rfl)
        go_wp2_with fail
        exact ⟨⟨k + 1, by omega, by go_num, Lib.hid ⟨B3.out, R0.out⟩⟩, by simp [intOf]; omega⟩
      · have R0 : Hid (lgr R = true) := Lib.hid (by rw [← E0.out, DC.out]; rfl)
        go_wp2_with fail
        go_ret
        exact ⟨by rw [R0.out]; rfl, B3.out⟩
    · obtain rfl : k = n := by omega
      have R0 : Hid (lgr R = false) := Lib.hid (by rw [← I.out.2, List.drop_of_length_le (by rw [N1.out]; exact Nat.le_refl _)]; rfl)
      go_wp2_with fail
      go_ret
      exact ⟨by rw [R0.out]; rfl, I.out.1⟩
end Go.Proofs.YtpnllbojifnopaaGreatDoor
