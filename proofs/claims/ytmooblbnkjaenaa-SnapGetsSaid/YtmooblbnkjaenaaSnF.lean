/- A state's writing: the program's Put. -/
import Derived.Test.YtmooblbnkjaenaaSnE
namespace Go.Proofs.Ytmooblbnkjaenaa
open Go Go.RowKit Pk
set_option maxRecDepth 20000

/- what Put answers -/
def PuX (next last : Nat) (fl : Bool) (fat : Nat) (L : List Ru) (w : World) (e : Ending) (w' : World) : Prop :=
  ∃ A k c X, e = .returned (.tuple #[.slice A k c, .int .i64 (if wr next last fl fat L then 0 else 1)]) ∧ X = (if wr next last fl fat L then wst next last fl fat L else []) ∧ X.length = k ∧ k ≤ c ∧ Hid (Byt w' A X) ∧ Below w.heap.size w w'
theorem s2_next {w W W' : World} {next last : Nat} {fl : Bool} {fat : Nat} {A : Option Addr} {n c : Nat} {L : List Ru} (h : W.cell? ⟨w.heap.size, 0, none⟩ = some (.int .u64 (next : Int)) ∧ W.cell? ⟨w.heap.size, 1, none⟩ = some (.int .u64 (last : Int)) ∧ Hid (Sx w W next last fl fat A n c L)) (hb : Below W.heap.size W W') :
    W'.cell? ⟨w.heap.size, 0, none⟩ = some (.int .u64 (next : Int)) ∧ W'.cell? ⟨w.heap.size, 1, none⟩ = some (.int .u64 (last : Int)) ∧ Hid (Sx w W' next last fl fat A n c L) := by
  have k : ∀ {p v}, W.cell? p = some v → W'.cell? p = some v := fun hc => (hb.cell (World.block_lt_of_cell? _ _ hc)).trans hc
  exact ⟨k h.1, k h.2.1, Lib.hid (h.2.2.out.next hb)⟩
theorem s5_next {w W W' : World} {next last : Nat} {fl : Bool} {fat : Nat} {A : Option Addr} {n c : Nat} {L : List Ru} (h : W.cell? ⟨w.heap.size, 3, none⟩ = some (.int .u64 (fat : Int)) ∧ W.cell? ⟨w.heap.size, 4, none⟩ = some (.slice A n c) ∧ Hid (Sx w W next last fl fat A n c L)) (hb : Below W.heap.size W W') :
    W'.cell? ⟨w.heap.size, 3, none⟩ = some (.int .u64 (fat : Int)) ∧ W'.cell? ⟨w.heap.size, 4, none⟩ = some (.slice A n c) ∧ Hid (Sx w W' next last fl fat A n c L) := by
  have k : ∀ {p v}, W.cell? p = some v → W'.cell? p = some v := fun hc => (hb.cell (World.block_lt_of_cell? _ _ hc)).trans hc
  exact ⟨k h.1, k h.2.1, Lib.hid (h.2.2.out.next hb)⟩
theorem Sx.nextb {w W W' : World} {next last : Nat} {fl : Bool} {fat : Nat} {A : Option Addr} {n c : Nat} {L : List Ru} {B : Nat} (h : Sx w W next last fl fat A n c L) (hb : Below B W W') (hB : w.heap.size < B) (hv : Rus w A L) : Sx w W' next last fl fat A n c L :=
  have bl : Below w.heap.size w W' := h.bel.trans (hb.mono (by omega))
  ⟨(hb.block _ hB).trans h.a, hv.below bl, bl⟩
theorem wp_app1 {o : Oper} {a : Act} {K : Act → World → Prop} {Q : Exit → Act → World → Prop} (s x : Operand) (w : World)
    (hop : o.op = .call { callee := .builtin .append, args := #[s, x], argTypes := #[27, 27] })
    (B : Nat) (v : Value) (xs : List Int) (hs : a.eval s = v) (ho : Own w B v xs) (A : Option Addr) (m c : Nat) (l : List Int) (hx : a.eval x = .slice A m c) (hm : l.length = m) (hb : Byt w A l) (hc : A = none → c = 0)
    (hr : ∀ c ∈ xs, 0 ≤ c ∧ c < 256) (k : Nat) (hk : (xs ++ l).length = k) (hlen : k ≤ 1000000) (hB : B ≤ w.heap.size)
    (h : ∀ A' c' w', Own w' B (.slice A' k c') (xs ++ l) → Byt w' A' (xs ++ l) → Below B w w' → K (a.put o.dst (.slice A' k c')) w') : Oper.wp Try.prog o a w K Q := by
  have hlen2 : xs.length + m ≤ 1000000 := by rw [List.length_append] at hk; omega
  obtain ⟨v', w', hrun, h2, h3⟩ := run_app w B o.type v xs ho A m c l hm hb hc hlen2 hB
  obtain ⟨A', c', rfl, hby⟩ := h2.form (fun c hc => by
    rcases List.mem_append.1 hc with h | h
    · exact hr c h
    · exact hb.2 c h)
  rw [hk] at h2 hrun
  unfold Oper.wp
  simp [execOp, hop, resolve, invoke, builtin, hs, hx, hrun, Result.andThen]
  exact h A' c' w' h2 hby h3
set_option maxHeartbeats 8000000 in
theorem sput_any (next last : Nat) (fl : Bool) (fat : Nat) (A : Option Addr) (n c : Nat) (L : List Ru) (w : World) (hn : L.length = n) (hm : n ≤ 1000) (hv : Rus w A L) (hk : ∀ r ∈ L, Okr r) (h1 : next < 18446744073709551616) (h2 : last < 18446744073709551616) (h3 : fat < 18446744073709551616) :
    Calls Try.prog 7 #[stv next last fl fat A n c] w fun e w' => PuX next last fl fat L w e w' := by
  have X0 : Hid (Sx w (w.alloc (.cells #[.int .u64 (next : Int), .int .u64 (last : Int), .bool fl, .int .u64 (fat : Int), .slice A n c] 25)) next last fl fat A n c L) := Lib.hid (Sx.new hv)
  have HB := Lib.hid (show next < 18446744073709551616 ∧ last < 18446744073709551616 ∧ fat < 18446744073709551616 from ⟨h1, h2, h3⟩)
  have HN := Lib.hid hn
  have HK := Lib.hid hk
  have HW := Lib.hid (fun W (h : Rus W A L) => written_any next last fl fat A n c L W hn hm h)
  have HVV := Lib.hid hv
  clear h1 h2 h3 hn hk hv
  go_enter Try.func7, Try.ntmps7
  go_upto_region 1 with fail
  generalize (w.alloc (.cells #[.int .u64 (next : Int), .int .u64 (last : Int), .bool fl, .int .u64 (fat : Int), .slice A n c] 25)) = w1 at X0 ⊢
  obtain ⟨b0, b1, b2, b3, b4, _⟩ := sto_cells X0.out.a
  have H1 := Lib.hid (HW.out w1 X0.out.r)
  clear HW
  obtain ⟨ok, hok⟩ : ∃ ok, wr next last fl fat L = ok := ⟨_, rfl⟩
  rw [hok] at H1
  have OK := Lib.hid hok
  clear hok
  go_wp2_with fail
  refine H1.out.mono ?_
  rintro _ w2 ⟨rfl, hb2⟩
  have X2 := Lib.hid (X0.out.next hb2)
  clear H1 X0 hb2 b0 b1 b2 b3 b4
  cases ok
  · go_wp2_with fail
    exact bodyPost_ret (results_tmp2 rfl _ _ _) rfl ⟨none, 0, 0, [], by rw [OK.out]; rfl, by rw [OK.out]; rfl, rfl, by omega, Lib.hid (Byt.nil _), X2.out.bel⟩
  · obtain ⟨b0, b1, b2, b3, b4, _⟩ := sto_cells X2.out.a
    go_upto_region 3 with fail
    have KD : (fun W => W.cell? ⟨w.heap.size, 0, none⟩ = some (.int .u64 (next : Int)) ∧ W.cell? ⟨w.heap.size, 1, none⟩ = some (.int .u64 (last : Int)) ∧ Hid (Sx w W next last fl fat A n c L)) w2.drew := ⟨(World.cell?_drew ..).trans b0, (World.cell?_drew ..).trans b1, Lib.hid (X2.out.next (Below.refl _ _).drew)⟩
    clear b0 b1 b2 b3 b4
    refine wp_region_noPanic ?_
    refine wp_region_held_drew (S := fun W => W.cell? ⟨w.heap.size, 0, none⟩ = some (.int .u64 (next : Int)) ∧ W.cell? ⟨w.heap.size, 1, none⟩ = some (.int .u64 (last : Int)) ∧ Hid (Sx w W next last fl fat A n c L)) (by kernel_rfl) (by exact KD) (fun hHeld => ?_)
    refine wpAnyH_take (i := 0) (v := ?_) rfl (by kernel_rfl) (by kernel_rfl) (by kernel_rfl) (fun _ _ _ h => h) (Or.inl ⟨by rfl, ?_⟩) (by assumption) ?_
    rotate_left
    · (intro W hSw; simp only [List.getElem_toArray, List.getElem_cons_zero]; (try dsimp only at hSw); go_simp; with_reducible rfl)
    simp only [List.getElem_toArray, List.getElem_cons_zero, Act.put, List.setIfInBounds_toArray, List.set_cons_zero, List.set_cons_succ]
    refine wpAnyH_take (i := 1) (v := ?_) rfl (by kernel_rfl) (by kernel_rfl) (by kernel_rfl) (fun _ _ _ h => h) (Or.inl ⟨by rfl, ?_⟩) (by assumption) ?_
    rotate_left
    · (intro W hSw; simp only [List.getElem_toArray, List.getElem_cons_succ, List.getElem_cons_zero]; (try dsimp only at hSw); go_simp; with_reducible rfl)
    simp only [List.getElem_toArray, List.getElem_cons_succ, List.getElem_cons_zero, Act.put, List.setIfInBounds_toArray, List.set_cons_zero, List.set_cons_succ]
    refine wpAnyH_take (i := 3) (v := ?_) rfl (by kernel_rfl) (by kernel_rfl) (by kernel_rfl) (fun _ _ _ h => h) (Or.inl ⟨by rfl, ?_⟩) (by assumption) ?_
    rotate_left
    · (intro W hSw; simp only [List.getElem_toArray, List.getElem_cons_succ, List.getElem_cons_zero]; (try dsimp only at hSw); go_simp; with_reducible rfl)
    simp only [List.getElem_toArray, List.getElem_cons_succ, List.getElem_cons_zero, Act.put, List.setIfInBounds_toArray, List.set_cons_zero, List.set_cons_succ]
    refine wpAnyH_take (i := 4) (v := ?_) rfl (by kernel_rfl) (by kernel_rfl) (by kernel_rfl) (fun _ _ _ h => h) (Or.inl ⟨by rfl, ?_⟩) (by assumption) ?_
    rotate_left
    · (intro W hSw; simp only [List.getElem_toArray, List.getElem_cons_succ, List.getElem_cons_zero]; (try dsimp only at hSw); go_simp; with_reducible rfl)
    simp only [List.getElem_toArray, List.getElem_cons_succ, List.getElem_cons_zero, Act.put, List.setIfInBounds_toArray, List.set_cons_zero, List.set_cons_succ]
    refine wpAnyH_ready (rs := [2]) (by kernel_rfl) (by simp) ?_
    refine AllReadyH.cons rfl (fun K hK => ?_) AllReadyH.nil
    (try simp only [List.getElem_toArray, List.getElem_cons_succ, List.getElem_cons_zero])
    go_simp
    go_wp2_with (go_at_call 14; refine (put_any none 0 0 [] next _ rfl (by omega) HB.out.1 (Byt.nil _)).mono ?_; rintro _ w4 ⟨A4, k4, c4, rfl, hk4, ho4, hb4⟩)
    refine hK.out _ _ (s2_next hHeld hb4) (fun hHeld => ?_)
    (try simp only [List.getElem_toArray, List.getElem_cons_succ, List.getElem_cons_zero, Act.put, List.setIfInBounds_toArray, List.set_cons_zero, List.set_cons_succ])
    refine wpAnyH_ready (rs := [5]) (by kernel_rfl) (by simp) ?_
    refine AllReadyH.cons rfl (fun K hK => ?_) AllReadyH.nil
    (try simp only [List.getElem_toArray, List.getElem_cons_succ, List.getElem_cons_zero])
    go_simp
    go_wp2_with (go_at_call 14; refine (put_any A4 k4 c4 _ last _ hk4 (by have := wrt_ten next HB.out.1; rw [List.length_append] at hk4; simp only [List.length_nil] at hk4; omega) HB.out.2.1 (ho4.byt (range_app (by simp) (wrt_range _)))).mono ?_; rintro _ w5 ⟨A5, k5, c5, rfl, hk5, ho5, hb5⟩)
    refine hK.out _ _ (s2_next hHeld hb5) (fun hHeld => ?_)
    (try simp only [List.getElem_toArray, List.getElem_cons_succ, List.getElem_cons_zero, Act.put, List.setIfInBounds_toArray, List.set_cons_zero, List.set_cons_succ])
    refine wpAnyH_take (i := 6) (v := ?_) rfl (by kernel_rfl) (by kernel_rfl) (by kernel_rfl) (fun _ _ _ h => h) (Or.inl ⟨by rfl, ?_⟩) (by assumption) ?_
    rotate_left
    · (intro W hSw; simp only [List.getElem_toArray, List.getElem_cons_succ, List.getElem_cons_zero]; (try dsimp only at hSw); go_simp; with_reducible rfl)
    simp only [List.getElem_toArray, List.getElem_cons_succ, List.getElem_cons_zero, Act.put, List.setIfInBounds_toArray, List.set_cons_zero, List.set_cons_succ]
    refine wpAnyH_done (by kernel_rfl) ?_ _
    refine NoPanic.normal ?_
    have X5 := Lib.hid hHeld.2.2.out
    have LE := Lib.hid hk5
    have RG := Lib.hid (show ∀ c ∈ [] ++ wrt next ++ wrt last, 0 ≤ c ∧ c < 256 from range_app (range_app (by simp) (wrt_range _)) (wrt_range _))
    have LK : Hid (k5 ≤ 20) := Lib.hid (by rw [← hk5]; simp only [List.length_append, List.length_nil]; have := wrt_ten next HB.out.1; have := wrt_ten last HB.out.2.1; omega)
    have QS := Lib.hid (show w.heap.size < w5.heap.size from (Array.getElem?_eq_some_iff.1 X5.out.a).1)
    have QO := Lib.hid (row_mono ho5 (Nat.le_refl _))
    have SZ4 := Lib.hid (show w.heap.size < w4.heap.size from Nat.lt_of_lt_of_le (Array.getElem?_eq_some_iff.1 X2.out.a).1 hb4.size)
    have Z45 := Lib.hid (show w4.heap.size ≤ w5.drew.heap.size from hb5.size)
    clear hb4 hk4 ho4 hb5 hk5 ho5 hHeld KD
    obtain ⟨b0, b1, b2, b3, b4, _⟩ := sto_cells X5.out.a
    cases fl
    · have WF := Lib.hid (show n ≤ 64 ∧ ord L n = true by have := (wr_iff _ _ _ _ _).1 OK.out; rw [HN.out] at this; exact ⟨this.2.2.1, (this.2.2.2.2 rfl).2⟩)
      go_upto_region 6 with fail
      have KD : (fun W => W.cell? ⟨w.heap.size, 3, none⟩ = some (.int .u64 (fat : Int)) ∧ W.cell? ⟨w.heap.size, 4, none⟩ = some (.slice A n c) ∧ Hid (Sx w W next last false fat A n c L)) w5.drew := ⟨(World.cell?_drew ..).trans b3, (World.cell?_drew ..).trans b4, Lib.hid (X5.out.next (Below.refl _ _).drew)⟩
      clear b0 b1 b2 b3 b4
      refine wp_region_noPanic ?_
      refine wp_region_held_drew (S := fun W => W.cell? ⟨w.heap.size, 3, none⟩ = some (.int .u64 (fat : Int)) ∧ W.cell? ⟨w.heap.size, 4, none⟩ = some (.slice A n c) ∧ Hid (Sx w W next last false fat A n c L)) (by kernel_rfl) (by exact KD) (fun hHeld => ?_)
      refine wpAnyH_take (i := 0) (v := ?_) rfl (by kernel_rfl) (by kernel_rfl) (by kernel_rfl) (fun _ _ _ h => h) (Or.inl ⟨by rfl, ?_⟩) (by assumption) ?_
      rotate_left
      · (intro W hSw; simp only [List.getElem_toArray, List.getElem_cons_zero]; (try dsimp only at hSw); go_simp; with_reducible rfl)
      simp only [List.getElem_toArray, List.getElem_cons_zero, Act.put, List.setIfInBounds_toArray, List.set_cons_zero, List.set_cons_succ]
      refine wpAnyH_take (i := 3) (v := ?_) rfl (by kernel_rfl) (by kernel_rfl) (by kernel_rfl) (fun _ _ _ h => h) (Or.inl ⟨by rfl, ?_⟩) (by assumption) ?_
      rotate_left
      · (intro W hSw; simp only [List.getElem_toArray, List.getElem_cons_succ, List.getElem_cons_zero]; (try dsimp only at hSw); go_simp; with_reducible rfl)
      simp only [List.getElem_toArray, List.getElem_cons_succ, List.getElem_cons_zero, Act.put, List.setIfInBounds_toArray, List.set_cons_zero, List.set_cons_succ]
      refine wpAnyH_take (i := 4) (v := ?_) rfl (by kernel_rfl) (by kernel_rfl) (by kernel_rfl) (fun _ _ _ h => h) (Or.inl ⟨by rfl, ?_⟩) (by assumption) ?_
      rotate_left
      · (intro W hSw; simp only [List.getElem_toArray, List.getElem_cons_succ, List.getElem_cons_zero]; (try dsimp only at hSw); go_simp; with_reducible rfl)
      simp only [List.getElem_toArray, List.getElem_cons_succ, List.getElem_cons_zero, Act.put, List.setIfInBounds_toArray, List.set_cons_zero, List.set_cons_succ]
      refine wpAnyH_ready (rs := [1]) (by kernel_rfl) (by simp) ?_
      refine AllReadyH.cons rfl (fun K hK => ?_) AllReadyH.nil
      (try simp only [List.getElem_toArray, List.getElem_cons_succ, List.getElem_cons_zero])
      go_simp
      go_wp2_with fail
      have NB := Lib.hid (below_alloc w5.drew (.cells #[.int .u8 0] 5))
      have MB := Lib.hid (Byt.one w5.drew 0 (by omega))
      have O5 := Lib.hid (Own.below (Own.below QO.out (Below.refl _ w5).drew) NB.out)
      have L5 := Lib.hid NB.out.size
      refine hK.out _ _ (s5_next hHeld NB.out) (fun hHeld => ?_)
      (try simp only [List.getElem_toArray, List.getElem_cons_succ, List.getElem_cons_zero, Act.put, List.setIfInBounds_toArray, List.set_cons_zero, List.set_cons_succ])
      refine wpAnyH_ready (rs := [2]) (by kernel_rfl) (by simp) ?_
      refine AllReadyH.cons rfl (fun K hK => ?_) AllReadyH.nil
      (try simp only [List.getElem_toArray, List.getElem_cons_succ, List.getElem_cons_zero])
      refine Eq.mpr (if_pos (by rfl)) ?_
      refine wp_app1 (.tmp 22) (.tmp 23) _ rfl w4.heap.size _ _ rfl O5.out _ 1 1 [0] rfl rfl MB.out (by intro h; cases h) RG.out (k5 + 1) (by rw [List.length_append, LE.out]; rfl) (by have := LK.out; omega) (Nat.le_trans Z45.out L5.out) ?_
      intro A6 c6 w6 ho6 hy6 hb6
      have X6 := Lib.hid (hHeld.2.2.out.nextb hb6 SZ4.out HVV.out)
      refine hK.out _ _ ⟨(sto_cells X6.out.a).2.2.2.1, (sto_cells X6.out.a).2.2.2.2.1, X6⟩ (fun hHeld => ?_)
      (try simp only [Act.put, List.setIfInBounds_toArray, List.set_cons_zero, List.set_cons_succ])
      refine wpAnyH_ready (rs := [5]) (by kernel_rfl) (by simp) ?_
      refine AllReadyH.cons rfl (fun K hK => ?_) AllReadyH.nil
      (try simp only [List.getElem_toArray, List.getElem_cons_succ, List.getElem_cons_zero])
      go_simp
      go_wp2_with (go_at_call 15; refine (putruns_any A6 (k5 + 1) c6 _ A n c L w6 (by rw [List.length_append, LE.out]; rfl) (by have := LK.out; omega) hy6 HN.out WF.out.1 X6.out.r HK.out WF.out.2).mono ?_; rintro _ w7 ⟨A7, k7, c7, rfl, hk7, hc7, ho7, hb7⟩)
      refine hK.out _ _ (s5_next hHeld hb7) (fun hHeld => ?_)
      skip
      (try simp only [List.getElem_toArray, List.getElem_cons_succ, List.getElem_cons_zero, Act.put, List.setIfInBounds_toArray, List.set_cons_zero, List.set_cons_succ])
      refine wpAnyH_take (i := 6) (v := ?_) rfl (by kernel_rfl) (by kernel_rfl) (by kernel_rfl) (fun _ _ _ h => h) (Or.inl ⟨by rfl, ?_⟩) (by assumption) ?_
      rotate_left
      · (intro W hSw; simp only [List.getElem_toArray, List.getElem_cons_succ, List.getElem_cons_zero]; (try dsimp only at hSw); go_simp; with_reducible rfl)
      simp only [List.getElem_toArray, List.getElem_cons_succ, List.getElem_cons_zero, Act.put, List.setIfInBounds_toArray, List.set_cons_zero, List.set_cons_succ]
      refine wpAnyH_take (i := 7) (v := ?_) rfl (by kernel_rfl) (by kernel_rfl) (by kernel_rfl) (fun _ _ _ h => h) (Or.inl ⟨by rfl, ?_⟩) (by assumption) ?_
      rotate_left
      · (intro W hSw; simp only [List.getElem_toArray, List.getElem_cons_succ, List.getElem_cons_zero]; (try dsimp only at hSw); go_simp; with_reducible rfl)
      simp only [List.getElem_toArray, List.getElem_cons_succ, List.getElem_cons_zero, Act.put, List.setIfInBounds_toArray, List.set_cons_zero, List.set_cons_succ]
      refine wpAnyH_done (by kernel_rfl) ?_ _
      refine NoPanic.normal ?_
      have BF := Lib.hid hHeld.2.2.out.bel
      have WE := Lib.hid (show ([] ++ wrt next ++ wrt last ++ [0] ++ (wrt n ++ wrs rz L)) = wst next last false fat L by rw [← HN.out]; simp [wst, List.append_assoc])
      rw [WE.out] at hk7 ho7
      have YF := Lib.hid (ho7.byt (wst_range _ _ _ _ _))
      go_wp2_with fail
      exact bodyPost_ret (results_tmp2 rfl _ _ _) rfl ⟨A7, k7, c7, _, by rw [OK.out]; rfl, by rw [OK.out]; rfl, hk7, hc7, Lib.hid YF.out, BF.out⟩
    · go_upto_region 5 with fail
      have KD : (fun W => W.cell? ⟨w.heap.size, 3, none⟩ = some (.int .u64 (fat : Int)) ∧ W.cell? ⟨w.heap.size, 4, none⟩ = some (.slice A n c) ∧ Hid (Sx w W next last true fat A n c L)) w5.drew := ⟨(World.cell?_drew ..).trans b3, (World.cell?_drew ..).trans b4, Lib.hid (X5.out.next (Below.refl _ _).drew)⟩
      clear b0 b1 b2 b3 b4
      refine wp_region_noPanic ?_
      refine wp_region_held_drew (S := fun W => W.cell? ⟨w.heap.size, 3, none⟩ = some (.int .u64 (fat : Int)) ∧ W.cell? ⟨w.heap.size, 4, none⟩ = some (.slice A n c) ∧ Hid (Sx w W next last true fat A n c L)) (by kernel_rfl) (by exact KD) (fun hHeld => ?_)
      refine wpAnyH_take (i := 0) (v := ?_) rfl (by kernel_rfl) (by kernel_rfl) (by kernel_rfl) (fun _ _ _ h => h) (Or.inl ⟨by rfl, ?_⟩) (by assumption) ?_
      rotate_left
      · (intro W hSw; simp only [List.getElem_toArray, List.getElem_cons_zero]; (try dsimp only at hSw); go_simp; with_reducible rfl)
      simp only [List.getElem_toArray, List.getElem_cons_zero, Act.put, List.setIfInBounds_toArray, List.set_cons_zero, List.set_cons_succ]
      refine wpAnyH_take (i := 3) (v := ?_) rfl (by kernel_rfl) (by kernel_rfl) (by kernel_rfl) (fun _ _ _ h => h) (Or.inl ⟨by rfl, ?_⟩) (by assumption) ?_
      rotate_left
      · (intro W hSw; simp only [List.getElem_toArray, List.getElem_cons_succ, List.getElem_cons_zero]; (try dsimp only at hSw); go_simp; with_reducible rfl)
      simp only [List.getElem_toArray, List.getElem_cons_succ, List.getElem_cons_zero, Act.put, List.setIfInBounds_toArray, List.set_cons_zero, List.set_cons_succ]
      refine wpAnyH_take (i := 4) (v := ?_) rfl (by kernel_rfl) (by kernel_rfl) (by kernel_rfl) (fun _ _ _ h => h) (Or.inl ⟨by rfl, ?_⟩) (by assumption) ?_
      rotate_left
      · (intro W hSw; simp only [List.getElem_toArray, List.getElem_cons_succ, List.getElem_cons_zero]; (try dsimp only at hSw); go_simp; with_reducible rfl)
      simp only [List.getElem_toArray, List.getElem_cons_succ, List.getElem_cons_zero, Act.put, List.setIfInBounds_toArray, List.set_cons_zero, List.set_cons_succ]
      refine wpAnyH_ready (rs := [1]) (by kernel_rfl) (by simp) ?_
      refine AllReadyH.cons rfl (fun K hK => ?_) AllReadyH.nil
      (try simp only [List.getElem_toArray, List.getElem_cons_succ, List.getElem_cons_zero])
      go_simp
      go_wp2_with fail
      have NB := Lib.hid (below_alloc w5.drew (.cells #[.int .u8 1] 5))
      have MB := Lib.hid (Byt.one w5.drew 1 (by omega))
      have O5 := Lib.hid (Own.below (Own.below QO.out (Below.refl _ w5).drew) NB.out)
      have L5 := Lib.hid NB.out.size
      refine hK.out _ _ (s5_next hHeld NB.out) (fun hHeld => ?_)
      (try simp only [List.getElem_toArray, List.getElem_cons_succ, List.getElem_cons_zero, Act.put, List.setIfInBounds_toArray, List.set_cons_zero, List.set_cons_succ])
      refine wpAnyH_ready (rs := [2]) (by kernel_rfl) (by simp) ?_
      refine AllReadyH.cons rfl (fun K hK => ?_) AllReadyH.nil
      (try simp only [List.getElem_toArray, List.getElem_cons_succ, List.getElem_cons_zero])
      refine Eq.mpr (if_pos (by rfl)) ?_
      refine wp_app1 (.tmp 16) (.tmp 17) _ rfl w4.heap.size _ _ rfl O5.out _ 1 1 [1] rfl rfl MB.out (by intro h; cases h) RG.out (k5 + 1) (by rw [List.length_append, LE.out]; rfl) (by have := LK.out; omega) (Nat.le_trans Z45.out L5.out) ?_
      intro A6 c6 w6 ho6 hy6 hb6
      have X6 := Lib.hid (hHeld.2.2.out.nextb hb6 SZ4.out HVV.out)
      refine hK.out _ _ ⟨(sto_cells X6.out.a).2.2.2.1, (sto_cells X6.out.a).2.2.2.2.1, X6⟩ (fun hHeld => ?_)
      (try simp only [Act.put, List.setIfInBounds_toArray, List.set_cons_zero, List.set_cons_succ])
      refine wpAnyH_ready (rs := [5]) (by kernel_rfl) (by simp) ?_
      refine AllReadyH.cons rfl (fun K hK => ?_) AllReadyH.nil
      (try simp only [List.getElem_toArray, List.getElem_cons_succ, List.getElem_cons_zero])
      go_simp
      go_wp2_with (go_at_call 14; refine (put_any A6 (k5 + 1) c6 _ fat w6 (by rw [List.length_append, LE.out]; rfl) (by have := LK.out; omega) HB.out.2.2 hy6).mono ?_; rintro _ w7 ⟨A7, k7, c7, rfl, hk7, ho7, hb7⟩)
      refine hK.out _ _ (s5_next hHeld hb7) (fun hHeld => ?_)
      skip
      (try simp only [List.getElem_toArray, List.getElem_cons_succ, List.getElem_cons_zero, Act.put, List.setIfInBounds_toArray, List.set_cons_zero, List.set_cons_succ])
      refine wpAnyH_take (i := 6) (v := ?_) rfl (by kernel_rfl) (by kernel_rfl) (by kernel_rfl) (fun _ _ _ h => h) (Or.inl ⟨by rfl, ?_⟩) (by assumption) ?_
      rotate_left
      · (intro W hSw; simp only [List.getElem_toArray, List.getElem_cons_succ, List.getElem_cons_zero]; (try dsimp only at hSw); go_simp; with_reducible rfl)
      simp only [List.getElem_toArray, List.getElem_cons_succ, List.getElem_cons_zero, Act.put, List.setIfInBounds_toArray, List.set_cons_zero, List.set_cons_succ]
      refine wpAnyH_take (i := 7) (v := ?_) rfl (by kernel_rfl) (by kernel_rfl) (by kernel_rfl) (fun _ _ _ h => h) (Or.inl ⟨by rfl, ?_⟩) (by assumption) ?_
      rotate_left
      · (intro W hSw; simp only [List.getElem_toArray, List.getElem_cons_succ, List.getElem_cons_zero]; (try dsimp only at hSw); go_simp; with_reducible rfl)
      simp only [List.getElem_toArray, List.getElem_cons_succ, List.getElem_cons_zero, Act.put, List.setIfInBounds_toArray, List.set_cons_zero, List.set_cons_succ]
      refine wpAnyH_done (by kernel_rfl) ?_ _
      refine NoPanic.normal ?_
      have BF := Lib.hid hHeld.2.2.out.bel
      have WE := Lib.hid (show ([] ++ wrt next ++ wrt last ++ [1] ++ wrt fat) = wst next last true fat L by rw [show ([] : List Int) = [] from rfl]; simp [wst, List.append_assoc])
      rw [WE.out] at hk7 ho7
      have YF := Lib.hid (ho7.byt (wst_range _ _ _ _ _))
      go_wp2_with fail
      exact bodyPost_ret (results_tmp2 rfl _ _ _) rfl ⟨A7, k7, c7, _, by rw [OK.out]; rfl, by rw [OK.out]; rfl, hk7, ho7.le hk7, Lib.hid YF.out, BF.out⟩
end Go.Proofs.Ytmooblbnkjaenaa
