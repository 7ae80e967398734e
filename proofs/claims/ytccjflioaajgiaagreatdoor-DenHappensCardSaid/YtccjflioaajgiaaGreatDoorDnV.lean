/- The program's Matches. -/
import Derived.Test.YtccjflioaajgiaaGreatDoorML
import Derived.Test.YtccjflioaajgiaaGreatDoorMP
import Derived.Test.YtccjflioaajgiaaGreatDoorMW
namespace Go.Proofs.YtccjflioaajgiaaGreatDoor
open Go Go.RowKit Go.Maps Pk Rl
set_option maxRecDepth 20000

theorem mp_zero {L : List Nd} {win : Int} (h : mp L win = 0) : L.length < 33 ∧ L ≠ [] := by
  unfold mp at h
  by_cases c1 : 32 < L.length
  · rw [if_pos c1] at h; omega
  · refine ⟨by omega, fun e => ?_⟩
    rw [if_neg c1, if_pos (.inr (by subst e; rfl))] at h
    omega
/- rows of matches of one's own -/
def mcls (L : List Mt) : List Value := L.flatMap enM
theorem mcls_len (L : List Mt) : (mcls L).length = L.length * 2 := by
  induction L with
  | nil => rfl
  | cons v L ih => show (enM v ++ mcls L).length = _; rw [List.length_append, ih, List.length_cons]; simp [enM]; omega
theorem mcls_app (L M : List Mt) : mcls (L ++ M) = mcls L ++ mcls M := by unfold mcls; rw [List.flatMap_append]
theorem mcls_get (L : List Mt) (i : Nat) (hi : i < L.length) (j : Nat) (hj : j < 2) : (mcls L)[i * 2 + j]? = (enM (gm L i))[j]? := by
  induction L generalizing i with
  | nil => simp at hi
  | cons v L ih =>
    show (enM v ++ mcls L)[i * 2 + j]? = _
    have h4 : (enM v).length = 2 := rfl
    rcases i with _ | i
    · rw [List.getElem?_append_left (by omega)]; simp [gm]
    · rw [List.getElem?_append_right (by omega), h4, show (i + 1) * 2 + j - 2 = i * 2 + j by omega, ih i (by simpa using hi)]; simp [gm]
def OwnMt (w : World) (B : Nat) (v : Value) (L : List Mt) : Prop := w.ownsRow B 46 2 v L.length (mcls L)
theorem OwnMt.nil (w : World) (B : Nat) : OwnMt w B nsl [] := World.ownsRow_nil w B 46 2
theorem OwnMt.same {w w' : World} {B : Nat} {v : Value} {L : List Mt} (h : OwnMt w B v L) (hb : ∀ (k : Nat) (cur : Array Value), w.heap[k]? = some (Obj.cells cur 46 (0, 0)) → w'.heap[k]? = w.heap[k]?) : OwnMt w' B v L := by
  refine ⟨h.1, ?_⟩
  rcases h.2 with h0 | ⟨g, cap, cur, hv, hg, hh, r⟩
  · exact .inl h0
  · exact .inr ⟨g, cap, cur, hv, hg, by rw [hb g cur hh]; exact hh, r⟩
theorem OwnMt.below {w w' : World} {B : Nat} {v : Value} {L : List Mt} (h : OwnMt w B v L) (hb : Below w.heap.size w w') : OwnMt w' B v L :=
  h.same fun k _ hk => hb.block k (Array.getElem?_eq_some_iff.1 hk).1
theorem OwnMt.keep {w w' : World} {B m : Nat} {v : Value} {L : List Mt} (h : OwnMt w B v L) (hb : Keep (· = m) w w') (hm : IsMp w m) : OwnMt w' B v L :=
  h.same fun k cur hk => hb.block k (Array.getElem?_eq_some_iff.1 hk).1 (fun e => by
    obtain ⟨es, clock, hm⟩ := hm
    rw [e, hm] at hk
    cases hk)
theorem OwnMt.form {w : World} {B : Nat} {v : Value} {L : List Mt} (h : OwnMt w B v L) : ∃ A c, v = .slice A L.length c ∧ Mrs w A L ∧ ((A = none ∧ c = 0 ∧ L = []) ∨ ∃ b, A = some ⟨b, 0, none⟩ ∧ B ≤ b ∧ b < w.heap.size ∧ ∀ j, w.frozen? ⟨b, j, none⟩ = false) := by
  rcases h.2 with ⟨rfl, h0⟩ | ⟨g, cap, cur, rfl, hB, hh, _⟩
  · have : L = [] := List.eq_nil_of_length_eq_zero h0
    subst this
    exact ⟨none, 0, rfl, Mrs.nil _ _, .inl ⟨rfl, rfl, rfl⟩⟩
  · refine ⟨_, _, rfl, fun i hi => ⟨g, 0, rfl, ?_, ?_⟩, .inr ⟨g, rfl, hB, (Array.getElem?_eq_some_iff.1 hh).1, fun j => by simp [World.frozen?, hh]⟩⟩
    · have := World.ownsRow.cells h (g := g) rfl (i * 2 + 0) _ (by rw [mcls_get L i hi 0 (by omega)]; rfl)
      rw [add_plain] at this
      simpa using this
    · have := World.ownsRow.cells h (g := g) rfl (i * 2 + 1) _ (by rw [mcls_get L i hi 1 (by omega)]; rfl)
      rw [add_plain] at this
      simpa [Nat.add_assoc] using this
theorem infoM : ∃ i z, Tryz.prog.info? 46 = some i ∧ i.zero = some z ∧ i.size = 2 ∧ i.bytes = 16 ∧ z.cells.size = 2 :=
  ⟨(Tryz.prog.info? 46).get (by kernel_rfl), .agg #[.int .u64 0, .int .u64 0], by kernel_rfl, by kernel_rfl, by kernel_rfl, by kernel_rfl, rfl⟩
theorem wp_appM {ops : Array Oper} {rest : List Oper} {o : Oper} {a : Act} {Q : Exit → Act → World → Prop} (s x : Operand) (w : World) (hgd : o.guard = none)
    (hop : o.op = .call { callee := .builtin .append, args := #[s, x], argTypes := #[37, 37] })
    (B : Nat) (v : Value) (L : List Mt) (hs : a.eval s = v) (ho : OwnMt w B v L) (b : Nat) (hx : a.eval x = .slice (some ⟨b, 0, none⟩) 1 1) (e : Mt) (hc : w.cell? ⟨b, 0, none⟩ = some (.int .u64 (e.1 : Int))) (hc2 : w.cell? ⟨b, 1, none⟩ = some (.int .u64 (e.2 : Int)))
    (hlen : L.length ≤ 100000000) (hB : B ≤ w.heap.size) (k : Nat) (hk : L.length + 1 = k)
    (h : ∀ A' c' w', OwnMt w' B (.slice A' k c') (L ++ [e]) → Ci w w' → Below B w w' → wpList Tryz.prog ops Q rest (a.put o.dst (.slice A' k c')) w') : wpList Tryz.prog ops Q (o :: rest) a w := by
  refine wpList_plain hgd fun K hK => ?_
  obtain ⟨i, z, hi, hz, hsz, hy, hzs⟩ := infoM
  obtain ⟨v', w', hrun, r2, r3, _, _⟩ := run_append_own_at (P := Tryz.prog) w B 37 o.type 46 i z 2 16 Tryz.underlying37 hi hz hsz hy hzs (by omega) v L.length (mcls L) ho ⟨b, 0, none⟩ 1 1 (enM e) rfl
    (fun j u hj => by
      rw [add_plain, Nat.zero_add]
      rcases j with _ | _ | j
      · rw [hc]; simpa [enM] using hj
      · rw [hc2]; simpa [enM] using hj
      · simp [enM] at hj)
    (fun u hu => by simp [enM] at hu; rcases hu with rfl | rfl <;> rfl) (by unfold maxLen; omega) (by omega) hB
  have hO : OwnMt w' B v' (L ++ [e]) := by
    unfold OwnMt
    rw [List.length_append, mcls_app]
    simpa [mcls] using r2
  have hci : Ci w w' := by
    rcases ho.2 with ⟨rfl, _⟩ | ⟨g, cap, cur, rfl, _, hh, _⟩
    · exact Ci.grown0 r3
    · exact Ci.grown r3 hh (by decide)
  obtain ⟨A', c', rfl, _⟩ := hO.form
  have ek : (L ++ [e]).length = k := by rw [List.length_append, List.length_singleton, hk]
  rw [ek] at hO hrun
  unfold Oper.wp
  simp [execOp, hop, resolve, invoke, builtin, hs, hx, hrun, Result.andThen]
  exact hK _ _ (h A' c' w' hO hci ((Below.refl _ _).grown r3 hB (fun k hk => (World.ownsRow.lt ho k hk).1)))
/- the matches, as they are found, and as they are answered -/
def pm (L : List Nd) (W : Nat) (R : List Lg) (i : Nat) : List Nat := ens (hq R) R.length L (ovr R.length (lat R) W) 0 i
def gen (L : List Nd) (W : Nat) (R : List Lg) (k : Nat) : List Mt := (List.range k).flatMap fun i => (pm L W R i).map fun j => (i, j)
theorem gen_next (L : List Nd) (W : Nat) (R : List Lg) (k : Nat) : gen L W R (k + 1) = gen L W R k ++ (pm L W R k).map fun j => (k, j) := by
  unfold gen
  rw [List.range_succ, List.flatMap_append]; simp
theorem pm_len (L : List Nd) (W : Nat) (R : List Lg) (i : Nat) (h : R.length ≤ 900) : (pm L W R i).length ≤ 900 := Nat.le_trans (rng_len _ _) (Nat.le_trans (ovr_le _ _ _ _) h)
theorem gen_len (L : List Nd) (W : Nat) (R : List Lg) (h : R.length ≤ 900) (k : Nat) : (gen L W R k).length ≤ 900 * k := by
  induction k with
  | zero => simp [gen]
  | succ k ih =>
    rw [gen_next, List.length_append, List.length_map]
    have := pm_len L W R k h
    omega
def dme (L : List Nd) (W : Nat) (R : List Lg) : Int := if mp L W = 0 then (if dm 0 R then 0 else 1) else mp L W
def dmt (L : List Nd) (W : Nat) (R : List Lg) : List Mt := if dme L W R = 0 then srt (gen L W R R.length) else []
theorem Ci.trans {a b c : World} (h : Ci a b) (k : Ci b c) : Ci a c := fun x cur fr hx => (k x cur fr ((h x cur fr hx).trans hx)).trans (h x cur fr hx)
structure Mg (S : Sea) (w2 W : World) (k q : Nat) (v : Value) : Prop where
  own : OwnMt W w2.heap.size v (gen S.L S.W S.R k ++ ((pm S.L S.W S.R k).take q).map fun j => (k, j))
  go : Sgo S w2 W
set_option maxHeartbeats 8000000 in
theorem matches_any (nA : Option Addr) (nN nC : Nat) (L : List Nd) (W : Nat) (rA : Option Addr) (rN rC : Nat) (R : List Lg) (w : World) (hP : Pt w nA nN nC L) (hR : Lr w rA R) (hn : R.length = rN) (hm2 : rN ≤ 900) (hW : W < 18446744073709551616) (hT : Tab w) :
    Calls Tryz.prog 13 #[ptv nA nN nC (W : Int), .slice rA rN rC] w fun e w' => (∃ A c, e = .returned (.tuple #[.slice A (dmt L W R).length c, .int .i64 (dme L W R)]) ∧ Mrs w' A (dmt L W R)) ∧ Below w.heap.size w w' := by
  obtain ⟨w1, hw1⟩ : ∃ X, w.alloc (ptobj nA nN nC (W : Int)) = X := ⟨_, rfl⟩
  have b1 : Below w.heap.size w w1 := hw1 ▸ bal w _
  have k0 : w1.cell? ⟨w.heap.size, 0, none⟩ = some (.slice nA nN nC) := by rw [← hw1]; simp [go_sem]
  have k1 : w1.cell? ⟨w.heap.size, 1, none⟩ = some (.int .u64 (W : Int)) := by rw [← hw1]; simp [go_sem]
  have K0 := Lib.hid k0
  have K1 := Lib.hid k1
  have B1 := Lib.hid b1
  have C1 := Lib.hid (Ck.of_below b1)
  have TM := Lib.hid (tmay_any nA nN nC L (W : Int) w1 (hP.ck C1.out) (hT.ck C1.out))
  have DM := Lib.hid (fun X (hX : Below w1.heap.size w1 X) => dmay_any rA rN rC R X ((hR.ck C1.out).ck (Ck.of_below hX)) hn (by omega))
  have SO := Lib.hid (fun (h0 : mp L (W : Int) = 0) (hd : dm 0 R = true) X (hX : Below w1.heap.size w1 X) => searchOf_any nA nN nC L W rA rN rC R X ((hP.ck C1.out).ck (Ck.of_below hX)) (by rw [← hP.len]; have := (mp_zero h0).1; omega) ((hR.ck C1.out).ck (Ck.of_below hX)) hn hm2 (dm_all hd).2 hW ((hT.ck C1.out).ck (Ck.of_below hX)))
  have HN := Lib.hid hP.len
  subst hn
  clear hP hR hT b1
  by_cases h0 : mp L (W : Int) = 0
  · rw [h0] at TM
    have SO2 := Lib.hid (SO.out h0)
    clear SO
    have hnN : 0 < L.length ∧ L.length < 33 := by
      have := mp_zero h0
      have h2 : L.length ≠ 0 := fun e => this.2 (List.eq_nil_of_length_eq_zero e)
      omega
    have HL := Lib.hid hnN
    clear hnN
    go_enter Tryz.func13, Tryz.ntmps13
    go_wp2_with fail
    refine TM.out.mono ?_
    rintro e w2 ⟨rfl, hb⟩
    have B2 := Lib.hid hb
    have e0 := Ck.of_below hb _ _ _ K0.out
    have e1 := Ck.of_below hb _ _ _ K1.out
    clear hb TM
    go_wp2_with fail
    refine (DM.out _ B2.out).mono ?_
    rintro e w3 ⟨rfl, hb⟩
    have B3 := Lib.hid (below_go B2.out hb)
    have e0 := Ck.of_below B3.out _ _ _ K0.out
    have e1 := Ck.of_below B3.out _ _ _ K1.out
    clear hb DM B2
    cases hd : dm 0 R
    · have ME : Hid (dme L W R = 1) := Lib.hid (by unfold dme; rw [if_pos h0, hd]; rfl)
      have MT : Hid (dmt L W R = []) := Lib.hid (by unfold dmt; rw [ME.out]; rfl)
      go_wp2_with fail
      go_ret2
      exact ⟨⟨none, 0, by rw [ME.out, MT.out]; rfl, by rw [MT.out]; exact Mrs.nil _ _⟩, B1.out.trans (B3.out.mono B1.out.size)⟩
    · have ME : Hid (dme L W R = 0) := Lib.hid (by unfold dme; rw [if_pos h0, hd]; rfl)
      have MT : Hid (dmt L W R = srt (gen L W R R.length)) := Lib.hid (by unfold dmt; rw [ME.out]; rfl)
      have SO3 := Lib.hid (SO2.out hd)
      clear SO2
      go_wp2_with fail
      refine (SO3.out _ B3.out).mono ?_
      rintro e w4 ⟨⟨s, rfl, m, pA, pC, oA, oC, hS, hmm⟩, hb⟩
      obtain ⟨S, hSe⟩ : ∃ S : Sea, S = ⟨s, m, nA, nC, L, pA, pC, rA, rC, R, oA, oC, W⟩ := ⟨_, rfl⟩
      have SC : Hid (Sch S w4) := Lib.hid (by rw [hSe]; exact hS)
      have SS : Hid (S.s = s ∧ S.m = m ∧ S.L = L ∧ S.R = R ∧ S.W = W) := Lib.hid (by rw [hSe]; exact ⟨rfl, rfl, rfl, rfl, rfl⟩)
      have B4 := Lib.hid (B1.out.trans ((below_go B3.out hb).mono B1.out.size))
      have MM : Hid (w.heap.size ≤ m) := Lib.hid (by have := B1.out.size; have := B3.out.size; omega)
      have EA : Hid (∀ k, k < R.length → ∀ X, Sch S X → Calls Tryz.prog 30 #[.pointer (some ⟨s, 0, none⟩), .int .i64 0, .int .i64 (k : Int)] X fun e w' => (∃ v, e = .returned v ∧ Sl w' v (pm L W R k)) ∧ Sgo S X w') := Lib.hid (fun k hk X hX => by
        have h8 := ends_any S 0 k (by rw [SS.out.2.2.1]; exact HL.out.1) (by rw [SS.out.2.2.2.1]; exact hk) X hX
        have e8 : S.en 0 k = pm L W R k := by rw [hSe]; rfl
        rw [e8, SS.out.1] at h8
        exact h8)
      have PLE := Lib.hid (fun k => pm_len L W R k hm2)
      have GLE := Lib.hid (fun k => gen_len L W R hm2 k)
      have GN := Lib.hid (fun k => gen_next L W R k)
      have MG : Hid (∀ X k q v, Mg S w4 X k q v ↔ (OwnMt X w4.heap.size v (gen L W R k ++ ((pm L W R k).take q).map fun j => (k, j)) ∧ Sgo S w4 X)) := Lib.hid (fun X k q v => by
        constructor
        · rintro ⟨h1, h2⟩
          rw [SS.out.2.2.1, SS.out.2.2.2.1, SS.out.2.2.2.2] at h1
          exact ⟨h1, h2⟩
        · rintro ⟨h1, h2⟩
          refine ⟨?_, h2⟩
          rw [SS.out.2.2.1, SS.out.2.2.2.1, SS.out.2.2.2.2]
          exact h1)
      have X0 : Hid (Mg S w4 w4 0 0 nsl) := Lib.hid ((MG.out _ _ _ _).2 ⟨by simpa [gen] using OwnMt.nil w4 w4.heap.size, Sgo.refl SC.out⟩)
      clear hS hb hmm hSe SO3 e0 e1 k0 k1 hw1
      go_wp2_with fail
      go_loopw [8, 25] (fun v t X => ∃ (k : Nat) (A : Option Addr) (n c : Nat), k ≤ R.length ∧ t = .int .i64 (k : Int) ∧ v = .slice A n c ∧ Hid (Mg S w4 X k 0 (.slice A n c))) (fun _ t _ => R.length - (intOf t).toNat)
      case atStart => exact ⟨0, none, 0, 0, Nat.zero_le _, rfl, rfl, X0⟩
      case round =>
        obtain ⟨k, A, n, c, hk, rfl, rfl, H⟩ := hrel
        by_cases hlt : k < R.length
        · have EC := Lib.hid (EA.out k hlt wr H.out.go.sch)
          have GK := Lib.hid (GLE.out k)
          have PK := Lib.hid (PLE.out k)
          have GX := Lib.hid (GN.out k)
          have MK := Lib.hid (fun X q v => MG.out X k q v)
          have MK1 := Lib.hid (fun X v => MG.out X (k + 1) 0 v)
          have PX := Lib.hid (fun j (hj : j ∈ pm L W R k) => (show j ≤ 900 by have h8 := (ens_mem hj).2; have h9 := ovr_le R.length (lat R) W k; omega))
          generalize hP : pm L W R k = P at EC GK PK GX MK PX
          go_wp2_with fail
          refine EC.out.mono ?_
          rintro e w5 ⟨⟨v, rfl, A5, c5, rfl, h05, i5⟩, hg⟩
          have I5 := Lib.hid i5
          have M5 : Hid (Mg S w4 w5 k 0 (.slice A n c)) := Lib.hid (by
            have h8 := (MK.out _ _ _).1 H.out
            exact (MK.out _ _ _).2 ⟨h8.1.keep hg.keep h8.2.sch.is, h8.2.trans hg⟩)
          have hpl : P.length ≤ 900 := PK.out
          clear h05 i5 hg H EC
          go_wp2_with fail
          go_loopw [8, 32] (fun v t X => ∃ (q : Nat) (A : Option Addr) (n c : Nat), q ≤ P.length ∧ t = .int .i64 (q : Int) ∧ v = .slice A n c ∧ Hid (Mg S w4 X k q (.slice A n c) ∧ Ci w5 X)) (fun _ t _ => P.length - (intOf t).toNat)
          case atStart => exact ⟨0, A, n, c, Nat.zero_le _, rfl, rfl, Lib.hid ⟨M5.out, fun _ _ _ _ => rfl⟩⟩
          case round =>
            obtain ⟨q, A, n, c, hq, rfl, rfl, H⟩ := hrel
            by_cases hlt2 : q < P.length
            · have IW := Lib.hid (I5.out.ci H.out.2)
              obtain ⟨b5, o5, rfl, hc5⟩ := IW.out.at q hlt2
              have TQ := Lib.hid (show (P.take (q + 1)).map (fun j => (k, j)) = (P.take q).map (fun j => (k, j)) ++ [(k, P.getD q 0)] by rw [take_snoc_n P q hlt2, List.map_append]; rfl)
              have hx9 := PX.out _ (ngetD_mem_n P q hlt2)
              generalize P.getD q 0 = x at hc5 TQ hx9
              have HO := Lib.hid ((MK.out _ _ _).1 H.out.1)
              have HC := Lib.hid H.out.2
              obtain ⟨A7, c7, e7, _⟩ := HO.out.1.form
              injection e7 with e71 e72 e73
              subst e71 e73
              have LQ : Hid ((gen L W R k ++ (P.take q).map fun j => (k, j)).length ≤ 1000000) := Lib.hid (by
                rw [List.length_append, List.length_map, List.length_take]
                have := GK.out
                have := hm2
                have h9 : 900 * k ≤ 900 * 900 := Nat.mul_le_mul_left 900 (by omega)
                omega)
              rw [e72] at HO ⊢
              have TQ2 : Hid (gen L W R k ++ (P.take (q + 1)).map (fun j => (k, j)) = gen L W R k ++ (P.take q).map (fun j => (k, j)) ++ [(k, x)]) := Lib.hid (by rw [TQ.out, List.append_assoc])
              generalize gen L W R k ++ (P.take q).map (fun j => (k, j)) = GL at HO LQ TQ2
              clear H e72
              have SZ := Lib.hid HO.out.2.keep.size
              go_wp2_with ((with_reducible show wpList _ _ _ (Oper.mk (some 43) _ _ _ _ _ :: _) _ _); refine wp_appM (.tmp 36) (.tmp 42) _ rfl rfl w4.heap.size _ GL rfl (HO.out.1.below (bal _ _)) _ rfl (k, x) (by simp [go_sem]) (by simp [go_sem]) (by have := LQ.out; omega) (Nat.le_trans SZ.out (bal _ _).size) (GL.length + 1) rfl ?_; intro A8 c8 w8 hO hci hb8; have M8 : Hid (Mg S w4 w8 k (q + 1) (.slice A8 (GL.length + 1) c8) ∧ Ci w5 w8) := Lib.hid ⟨(MK.out _ _ _).2 ⟨by rw [TQ2.out]; exact hO, (HO.out.2.below (bal _ _)).app SC.out hb8 hci⟩, (HC.out.trans (Ci.of_below (bal _ _))).trans hci⟩; clear hO hci hb8)
              exact ⟨⟨q + 1, A8, _, c8, by omega, by go_num, rfl, M8⟩, by simp [intOf]; omega⟩
            · obtain rfl : q = P.length := by omega
              have M6 : Hid (Mg S w4 wr (k + 1) 0 (.slice A n c)) := Lib.hid (by
                have h8 := (MK.out _ _ _).1 H.out.1
                refine (MK1.out _ _).2 ⟨?_, h8.2⟩
                rw [GX.out]
                rw [List.take_of_length_le (Nat.le_refl _)] at h8
                simpa using h8.1)
              go_wp2_with fail
              exact ⟨⟨k + 1, A, n, c, by omega, by go_num, rfl, M6⟩, by simp [intOf]; omega⟩
        · obtain rfl : k = R.length := by omega
          have HO : Hid (OwnMt wr w4.heap.size (.slice A n c) (gen L W R R.length) ∧ Sgo S w4 wr) := Lib.hid (by
            have h8 := (MG.out _ _ _ _).1 H.out
            rw [List.take_zero, List.map_nil, List.append_nil] at h8
            exact h8)
          have LG : Hid ((gen L W R R.length).length ≤ 1000000) := Lib.hid (by
            have := GLE.out R.length
            have h9 : 900 * R.length ≤ 900 * 900 := Nat.mul_le_mul_left 900 (by omega)
            omega)
          have BW : Hid (Below w.heap.size w wr) := Lib.hid (B4.out.trans (by
            have h8 := HO.out.2.keep
            exact Keep.below h8 (fun j hj => by rw [hj, SS.out.2.1]; exact MM.out) B4.out.size))
          obtain ⟨A7, c7, e7, hm7, hf7⟩ := HO.out.1.form
          injection e7 with e71 e72 e73
          subst e71 e73
          rw [e72]
          rcases hf7 with ⟨rfl, rfl, h7⟩ | ⟨b, rfl, hb1, hb2, hb3⟩
          · have MT2 : Hid (dmt L W R = []) := Lib.hid (by rw [MT.out, h7]; simp [srt])
            rw [h7]
            have SN := Lib.hid (sortM_nil wr)
            clear hm7 h7 e72
            go_wp2_with fail
            refine SN.out.mono ?_
            rintro e w9 ⟨rfl, rfl⟩
            go_wp2_with fail
            go_ret2
            exact ⟨⟨none, 0, by rw [ME.out, MT2.out]; rfl, by rw [MT2.out]; exact Mrs.nil _ _⟩, BW.out⟩
          · have SN := Lib.hid (sortM_any b c (gen L W R R.length) wr hm7 hb3 hb2 LG.out)
            have BB : Hid (w.heap.size ≤ b) := Lib.hid (Nat.le_trans B4.out.size hb1)
            have ML : Hid ((dmt L W R).length = (gen L W R R.length).length) := Lib.hid (by rw [MT.out, srt_len])
            clear hm7 hb1 hb2 hb3 e72
            go_wp2_with fail
            refine SN.out.mono ?_
            rintro e w9 ⟨rfl, hm9, hk9⟩
            have R9 := Lib.hid (show Mrs w9 (some ⟨b, 0, none⟩) (dmt L W R) ∧ Below w.heap.size w w9 from ⟨by rw [MT.out]; exact hm9, BW.out.trans (hk9.below (fun j hj => by rw [hj]; exact BB.out) BW.out.size)⟩)
            clear hm9 hk9
            go_wp2_with fail
            go_ret2
            exact ⟨⟨some ⟨b, 0, none⟩, c, by rw [ME.out, ML.out]; rfl, R9.out.1⟩, R9.out.2⟩
  · have ME : Hid (dme L W R = mp L (W : Int)) := Lib.hid (by unfold dme; rw [if_neg h0])
    have MT : Hid (dmt L W R = []) := Lib.hid (by unfold dmt; rw [ME.out, if_neg h0])
    have hne : (mp L (W : Int) != 0) = true := by simpa using h0
    generalize mp L (W : Int) = me at TM ME hne
    go_enter Tryz.func13, Tryz.ntmps13
    go_wp2_with fail
    refine TM.out.mono ?_
    rintro e w2 ⟨rfl, hb⟩
    have B2 := Lib.hid (B1.out.trans (hb.mono B1.out.size))
    clear hb TM
    go_wp2_with fail
    go_ret2
    exact ⟨⟨none, 0, by rw [ME.out, MT.out]; rfl, by rw [MT.out]; exact Mrs.nil _ _⟩, B2.out⟩
end Go.Proofs.YtccjflioaajgiaaGreatDoor
