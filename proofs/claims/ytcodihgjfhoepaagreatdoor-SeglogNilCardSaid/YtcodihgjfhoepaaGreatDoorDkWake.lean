/- Wake. -/
import Derived.Test.YtcodihgjfhoepaaGreatDoorDkList
namespace Go.Proofs.YtcodihgjfhoepaaGreatDoor
open Go Go.RowKit
set_option maxRecDepth 20000

/- whole numbers in memory behind an address -/
def Ints (w : World) (A : Option Addr) (l : List Int) : Prop := ∀ i, i < l.length → ∃ b off, A = some ⟨b, off, none⟩ ∧ w.cell? ⟨b, off + i, none⟩ = some (.int .i64 (l.getD i 0))
theorem Ints.below {w w' : World} {A : Option Addr} {l : List Int} (h : Ints w A l) (hb : Below w.heap.size w w') : Ints w' A l := fun i hi => by
  obtain ⟨b, off, e, hc⟩ := h i hi
  exact ⟨b, off, e, (hb.cell (World.block_lt_of_cell? _ _ hc)).trans hc⟩
theorem Ints.keep {w w' : World} {A : Option Addr} {l : List Int} {F : Nat → Prop} (h : Ints w A l) (hk : Keep F w w') (hF : ∀ x, A = some x → ¬ F x.block) : Ints w' A l := fun i hi => by
  obtain ⟨b, off, e, hc⟩ := h i hi
  exact ⟨b, off, e, hk.cell hc (hF ⟨b, off, none⟩ e)⟩
theorem usd_app (l r : List Fl) : usd (l ++ r) = usd l + usd r := by simp [usd, List.sum_append]
theorem usd_cons (f : Fl) (r : List Fl) : usd (f :: r) = f.bs.length + usd r := by simp [usd]
theorem Ok.mid {S : St} {X Y : List Fl} {f g : Fl} (h : Ok (Go.Proofs.YtcodihgjfhoepaaGreatDoor.withFs S (X ++ f :: Y))) (e : g.nm = f.nm) (hg : Okf g) (hl : g.bs.length ≤ f.bs.length) : Ok (Go.Proofs.YtcodihgjfhoepaaGreatDoor.withFs S (X ++ g :: Y)) := by
  have hu : usd (X ++ f :: Y) ≤ S.room := h.used
  have hm : (X ++ f :: Y).length ≤ 256 := h.many
  refine ⟨rise_mid h.rise e, h.room, ?_, ?_, fun x hx => ?_, h.acts, h.part⟩
  · show usd (X ++ g :: Y) ≤ S.room
    rw [usd_app, usd_cons] at hu ⊢
    omega
  · show (X ++ g :: Y).length ≤ 256
    simp at hm ⊢
    omega
  · have hx' : x ∈ X ++ g :: Y := hx
    rcases List.mem_append.1 hx' with hx | hx
    · exact h.file x (List.mem_append.2 (.inl hx))
    · rcases List.mem_cons.1 hx with rfl | hx
      · exact hg
      · exact h.file x (List.mem_append.2 (.inr (List.mem_cons_of_mem _ hx)))
/- how far it is: the first i files have come up -/
def cur (keep : List Int) (l : List Fl) (i : Nat) : List Fl := wkL keep 0 (l.take i) ++ l.drop i
theorem cur_zero (keep : List Int) (l : List Fl) : cur keep l 0 = l := by simp [cur, wkL]
theorem cur_all (keep : List Int) (l : List Fl) : cur keep l l.length = wkL keep 0 l := by simp [cur]
theorem cur_at (keep : List Int) (l : List Fl) (i : Nat) (hi : i < l.length) : cur keep l i = wkL keep 0 (l.take i) ++ l.getD i fz :: l.drop (i + 1) := by unfold cur; rw [drop_get l i hi]
theorem cur_next (keep : List Int) (l : List Fl) (i : Nat) (hi : i < l.length) : cur keep l (i + 1) = wkL keep 0 (l.take i) ++ wk keep i (l.getD i fz) :: l.drop (i + 1) := by
  unfold cur; rw [wkL_snoc keep l i hi, List.append_assoc]; rfl
structure WkI (w0 : World) (d m : Nat) (V : ByteArray → Value) (S : St) (keep : List Int) (A AL : Option Addr) (i : Nat) (W : World) (Vi : ByteArray → Value) : Prop where
  dk : Dk W d m Vi (withFs S (cur keep S.fs i))
  nms : Nms W AL S.fs
  ints : Ints W A keep
  kp : Keep (Fp d m V S.fs) w0 W
  fp : ∀ x, Fp d m Vi (cur keep S.fs i) x → Fp d m V S.fs x ∨ w0.heap.size ≤ x
  farL : ∀ x, AL = some x → ¬ Fp d m Vi (cur keep S.fs i) x.block ∧ x.block < W.heap.size
  farA : ∀ x, A = some x → ¬ Fp d m Vi (cur keep S.fs i) x.block ∧ x.block < W.heap.size
section
variable {w0 : World} {d m : Nat} {V : ByteArray → Value} {S : St} {keep : List Int} {A AL : Option Addr} {i : Nat} {W : World} {Vi : ByteArray → Value}
theorem WkI.next (h : WkI w0 d m V S keep A AL i W Vi) (hi : i < S.fs.length) {W1 W2 : World} (A' : Option Addr) (k c : Nat) (x0 x1 : Value) (hk : k = (S.fs.getD i fz).sf + mor keep i (S.fs.getD i fz))
    (hb : Below W.heap.size W W1) (hO : Own W2 W1.heap.size (.slice A' k c) ((S.fs.getD i fz).bs.take k)) (hb2 : Below W1.heap.size W1 W2) (hx0 : W1.cell? ⟨W.heap.size, 0, none⟩ = some x0) (hx1 : W1.cell? ⟨W.heap.size, 1, none⟩ = some x1) :
    ∃ w3, (Instr.mapUpdate 79 (.map (some m)) (.string (S.fs.getD i fz).nm) (.agg #[.slice A' k c, .int .i64 (k : Int)])).run Tryz.prog W2 = .ok () w3 ∧
      (W2.cell? ⟨d, 1, none⟩ = some (.map (some m)) ∧ W2.cell? ⟨W.heap.size, 0, none⟩ = some x0 ∧ W2.cell? ⟨W.heap.size, 1, none⟩ = some x1) ∧ (w3.cell? ⟨d, 1, none⟩ = some (.map (some m)) ∧ w3.cell? ⟨W.heap.size, 0, none⟩ = some x0 ∧ w3.cell? ⟨W.heap.size, 1, none⟩ = some x1) ∧
      WkI w0 d m V S keep A AL (i + 1) w3 (updV Vi (S.fs.getD i fz).nm (.slice A' k c)) := by
  subst hk
  have hdk := h.dk
  have hok := hdk.ok
  rw [cur_at keep S.fs i hi] at hdk hok
  have hfi : Okf (S.fs.getD i fz) := hok.file _ (by show _ ∈ _ ++ _ :: _; simp)
  have hw := wk_ok hfi keep i
  have hn' : (S.fs.getD i fz).nm.size ≤ maxLen := by have := hfi.n2; unfold maxLen; omega
  have hr : Rise (wkL keep 0 (S.fs.take i) ++ S.fs.getD i fz :: S.fs.drop (i + 1)) := hok.rise
  obtain ⟨w3, p1, p2, p3, q1, q2, q3⟩ := hdk.newRow (wk keep i (S.fs.getD i fz)) A' _ c (wkL keep 0 (S.fs.take i) ++ wk keep i (S.fs.getD i fz) :: S.fs.drop (i + 1)) W.heap.size x0 x1 hn' hb hO hb2 (Nat.le_refl _) hx0 hx1
    (hok.mid rfl hw.1 hw.2) (by
      have : fnd (wkL keep 0 (S.fs.take i) ++ S.fs.getD i fz :: S.fs.drop (i + 1)) (S.fs.getD i fz).nm = some (S.fs.getD i fz) := hr.fnd (by simp)
      show (if (fnd (wkL keep 0 (S.fs.take i) ++ S.fs.getD i fz :: S.fs.drop (i + 1)) (S.fs.getD i fz).nm).isSome then _ else _) = _
      rw [this]
      simp [withFs]) (fun j => fnd_mid (g := wk keep i (S.fs.getD i fz)) hr rfl j)
  have e0 : (withFs S (wkL keep 0 (S.fs.take i) ++ S.fs.getD i fz :: S.fs.drop (i + 1))).fs = cur keep S.fs i := (cur_at keep S.fs i hi).symm
  rw [e0] at q2 q3
  have hsz := q2.size
  have far : ∀ x, ¬ Fp d m Vi (cur keep S.fs i) x ∧ x < W.heap.size → ¬ Fp d m (updV Vi (S.fs.getD i fz).nm (.slice A' ((S.fs.getD i fz).sf + mor keep i (S.fs.getD i fz)) c)) (cur keep S.fs (i + 1)) x ∧ x < w3.heap.size := fun x hx => by
    refine ⟨fun e => ?_, by omega⟩
    rw [cur_next keep S.fs i hi] at e
    rcases q3 x e with e | e
    · exact hx.1 e
    · omega
  refine ⟨w3, p1, p2, p3, ?_, h.nms.keep q2 (fun x e => (h.farL x e).1), h.ints.keep q2 (fun x e => (h.farA x e).1), h.kp.trans q2 (fun x hx e => ?_), fun x e => ?_, fun x e => far _ (h.farL x e), fun x e => far _ (h.farA x e)⟩
  · have := q1
    rw [cur_next keep S.fs i hi]
    exact this
  · rcases h.fp x e with e | e
    · exact e
    · omega
  · rw [cur_next keep S.fs i hi] at e
    rcases q3 x e with e | e
    · exact h.fp x e
    · have := h.kp.size
      exact .inr (by omega)
end
def Woken (w : World) (d m : Nat) (V : ByteArray → Value) (S T : St) (e : Ending) (w' : World) : Prop :=
  e = .returned (.tuple #[]) ∧ ∃ V', Dk w' d m V' T ∧ Keep (Fp d m V S.fs) w w' ∧ ∀ x, Fp d m V' T.fs x → Fp d m V S.fs x ∨ w.heap.size ≤ x
theorem wake_nil (v : Value) (w : World) : Calls Tryz.prog 16 #[.pointer none, v] w fun e w' => e = .returned (.tuple #[]) ∧ w = w' := by
  go_enter Tryz.func16, Tryz.ntmps16
  go_wp2
  go_returns
  exact ⟨rfl, rfl⟩
theorem wake_up {w : World} {d m : Nat} {V : ByteArray → Value} {S : St} (h : Dk w d m V S) (v : Value) (hu : S.up = true) :
    Calls Tryz.prog 16 #[ptr d, v] w (Woken w d m V S S) := by
  have c2 := h.c2
  rw [hu] at c2
  have H := Lib.hid h
  clear h hu
  go_enter Tryz.func16, Tryz.ntmps16
  go_wp2
  go_returns
  exact ⟨rfl, V, H.out, Keep.refl _ _, fun x hx => .inl hx⟩
set_option maxHeartbeats 4000000 in
theorem wake_down {w : World} {d m : Nat} {V : ByteArray → Value} {S : St} (h : Dk w d m V S) (A : Option Addr) (k c : Nat) (keep : List Int) (hl : keep.length = k) (hi : Ints w A keep) (hfar : ∀ x, A = some x → ¬ Fp d m V S.fs x.block ∧ x.block < w.heap.size) (hk : k ≤ 1000000000) (hu : S.up = false) :
    Calls Tryz.prog 16 #[ptr d, .slice A k c] w (Woken w d m V S ⟨S.room, wkL keep 0 S.fs, true, S.falls, S.lit, S.acts, S.part⟩) := by
  have c2 := h.c2
  rw [hu] at c2
  have C := Lib.hid (list_any h)
  have H := Lib.hid h
  have HI := Lib.hid hi
  have HFR := Lib.hid hfar
  have HL := Lib.hid hl
  have HU := Lib.hid hu
  have hm := h.ok.many
  clear h hi hfar hl hu
  obtain ⟨n, hn⟩ : ∃ n, S.fs.length = n := ⟨_, rfl⟩
  have HN := Lib.hid hn
  rw [hn] at hm
  clear hn
  go_enter Tryz.func16, Tryz.ntmps16
  go_wp2_with fail
  refine C.out.mono ?_
  rintro e w1 ⟨AL, cL, rfl, hN, hfL, hb1⟩
  rw [HN.out]
  have I0 : Hid (WkI w d m V S keep A AL 0 w1 V) := by
    refine ⟨?_, hN, HI.out.below hb1, Keep.of_below _ hb1, ?_, fun x e => ?_, fun x e => ?_⟩
    · rw [cur_zero]
      exact H.out.below hb1
    · rw [cur_zero]
      exact fun x e => .inl e
    · rw [cur_zero]
      refine ⟨fun f => ?_, (hfL x e).2⟩
      have := H.out.lt _ f
      have := (hfL x e).1
      omega
    · rw [cur_zero]
      have := HFR.out x e
      have := hb1.size
      exact ⟨(HFR.out x e).1, by omega⟩
  clear C hN hfL hb1 H HI HFR
  go_wp2_with fail
  go_loopw [20] (fun s wr => ∃ (i : Nat) (Vi : ByteArray → Value), s = .int .i64 i ∧ i ≤ n ∧ Hid (WkI w d m V S keep A AL i wr Vi)) (fun s _ => n - (intOf s).toNat)
  case atStart => exact ⟨0, V, rfl, by omega, I0⟩
  case round =>
    obtain ⟨i, Vi, rfl, hin, HI⟩ := hrel
    clear I0
    by_cases ci : i < n
    · obtain ⟨bL, oL, rfl, z0⟩ := HI.out.nms i (by rw [HN.out]; exact ci)
      have ci' : (i : Int) < (n : Int) := by omega
      have ci0 : (0 : Int) ≤ (i : Int) := by omega
      have hil : i < S.fs.length := by rw [HN.out]; exact ci
      have hdk := HI.out.dk
      have c1 := hdk.c1
      have hd : d < wr.heap.size := hdk.lt d (.inl rfl)
      have hok := hdk.ok
      have hfc : fnd (cur keep S.fs i) (S.fs.getD i fz).nm = some (S.fs.getD i fz) := by
        have hr : Rise (cur keep S.fs i) := hok.rise
        refine hr.fnd ?_
        rw [cur_at keep S.fs i hil]
        simp
      have hfo := hok.file _ (fnd_mem hfc).1
      have hs : (S.fs.getD i fz).nm.size ≤ maxLen := by have := hfo.n2; unfold maxLen; omega
      have L := hdk.mp.look1 hs
      obtain ⟨Af, cf, eV, hO, hB, _, hlen⟩ := hdk.file hfc
      rw [show (withFs S (cur keep S.fs i)).fs = cur keep S.fs i from rfl, tell_some hfc, eV] at L
      simp only [Option.getD_some] at L
      have hsafe := hfo.safe
      have NX := Lib.hid (fun (W1 W2 : World) A' kk c' x0 x1 hkk hb hO hb2 hx0 hx1 => HI.out.next hil (W1 := W1) (W2 := W2) A' kk c' x0 x1 hkk hb hO hb2 hx0 hx1)
      have hle := hO.le rfl
      have FR := Lib.hid (fun (W1 : World) (kk : Nat) (hb : Below wr.heap.size wr W1) (hkk : kk ≤ (S.fs.getD i fz).bs.length) => front_any W1 Af (S.fs.getD i fz).bs.length cf kk (S.fs.getD i fz).bs rfl (hB.below hb) hle hO.capz hkk (by omega))
      have hmor := mor_le keep i (S.fs.getD i fz) hsafe
      have HM := Lib.hid (show mor keep i (S.fs.getD i fz) = if i < keep.length then (max (keep.getD i 0) 0).toNat % ((S.fs.getD i fz).bs.length - (S.fs.getD i fz).sf + 1) else 0 from rfl)
      have IT := Lib.hid HI.out.ints
      clear hdk hok hfc hfo eV hO hB HI
      generalize S.fs.getD i fz = f at *
      obtain ⟨fn, fb, fs⟩ := f
      simp only at *
      obtain ⟨q, hq⟩ : ∃ q, fb.length = q := ⟨_, rfl⟩
      have HQ := Lib.hid hq
      rw [hq] at L hlen hsafe hle FR hmor HM
      clear hq
      obtain ⟨mr, hmr⟩ : ∃ mr, mor keep i ⟨fn, fb, fs⟩ = mr := ⟨_, rfl⟩
      rw [hmr] at NX hmor HM
      clear hmr
      have hq0 : (0 : Int) ≤ (fs : Int) := by omega
      have hfq : (fs : Int) ≤ (q : Int) := by omega
      have hl0 : (0 : Int) ≤ (fs : Int) + (mr : Int) := by omega
      have hl1 : (fs : Int) + (mr : Int) ≤ (q : Int) := by omega
      have hcast : ((fs : Int) + (mr : Int)) = ((fs + mr : Nat) : Int) := by omega
      have HC := Lib.hid hcast
      by_cases ck : i < k
      · obtain ⟨bK, oK, rfl, z1⟩ := IT.out i (by rw [HL.out]; exact ck)
        have ck' : (i : Int) < (k : Int) := by omega
        obtain ⟨kv, hkv⟩ : ∃ kv, keep.getD i 0 = kv := ⟨_, rfl⟩
        rw [hkv] at z1 HM
        clear hkv
        have hmr2 : mr = (max kv 0).toNat % (q - fs + 1) := by have := HM.out; rwa [if_pos (by rw [HL.out]; exact ck)] at this
        have htm : Int.tmod (max kv 0) ((q : Int) - (fs : Int) + 1) = (mr : Int) := by
          rw [Int.tmod_eq_emod_of_nonneg (by omega), hmr2]
          have e1 : max kv 0 = (((max kv 0).toNat : Nat) : Int) := by omega
          have e2 : (q : Int) - (fs : Int) + 1 = ((q - fs + 1 : Nat) : Int) := by omega
          rw [e2, Int.natCast_emod, ← e1]
        have HTM := Lib.hid htm
        clear htm hmr2 IT HM
        go_wp2_with fail
        have htm := HTM.out
        have hbK : bK < wr.heap.size := World.block_lt_of_cell? _ _ z1
        have hw1 : IntKind.i64.wrap ((q : Int) - (fs : Int)) = (q : Int) - (fs : Int) := IntWalk.i64_in _ ⟨by omega, by omega⟩
        have hw2 : IntKind.i64.wrap ((q : Int) - (fs : Int) + 1) = (q : Int) - (fs : Int) + 1 := IntWalk.i64_in _ ⟨by omega, by omega⟩
        have hne : ¬ ((q : Int) - (fs : Int) + 1 = 0) := by omega
        go_region_held3 (fun W => W.cell? ⟨bK, oK + i, none⟩ = some (.int .i64 kv) ∧ W.cell? ⟨wr.heap.size, 0, none⟩ = some (.slice Af q cf) ∧ W.cell? ⟨wr.heap.size, 1, none⟩ = some (.int .i64 (fs : Int)))
          (first | assumption | exact ⟨by simp [go_sem, *], by simp [go_sem], by simp [go_sem]⟩)
          (fail)
        clear htm hw1 hw2 hne
        have C2 := Lib.hid (FR.out (wr.alloc (.cells #[.slice Af q cf, .int .i64 (fs : Int)] 87)).drew.drew (fs + mr) (((below_alloc wr (.cells #[.slice Af q cf, .int .i64 (fs : Int)] 87)).drew).drew) (by omega))
        have HA := Lib.hid (fun A' c' W2 hO' hb2 => NX.out (wr.alloc (.cells #[.slice Af q cf, .int .i64 (fs : Int)] 87)).drew.drew W2 A' (fs + mr) c' (.slice Af q cf) (.int .i64 (fs : Int)) rfl (((below_alloc wr (.cells #[.slice Af q cf, .int .i64 (fs : Int)] 87)).drew).drew) hO' hb2 (by simp [go_sem]) (by simp [go_sem]))
        rw [← HC.out] at C2 HA
        clear FR NX HC hcast
        go_wp2_with fail
        go_region_held3 (fun W => W.cell? ⟨d, 1, none⟩ = some (.map (some m)) ∧ W.cell? ⟨wr.heap.size, 0, none⟩ = some (.slice Af q cf) ∧ W.cell? ⟨wr.heap.size, 1, none⟩ = some (.int .i64 (fs : Int)))
          (first | assumption | exact ⟨by simp [go_sem, *], by simp [go_sem], by simp [go_sem]⟩)
          (first | (go_at_call 39; (with_reducible refine Calls.mono C2.out ?_); rintro e w' ⟨A', c', rfl, hO', hb'⟩; obtain ⟨w3, p1, p2, p3, p4⟩ := HA.out A' c' w' hO' hb'; have P4 := Lib.hid p4; clear p4 hO' hb'))
        all_goals
          clear p1 p2 p3 HA C2
          go_wp2_with fail
          go_roundw
          case rel => exact ⟨i + 1, _, by go_num, by omega, P4⟩
          case measure => simp [intOf]; omega
      · have ck' : ¬ (i : Int) < (k : Int) := by omega
        have hmr2 : mr = 0 := by have := HM.out; rwa [if_neg (by rw [HL.out]; exact ck)] at this
        have HZ := Lib.hid (show fs = fs + mr by omega)
        clear HM IT hmr2 hl0 hl1
        have C2 := Lib.hid (FR.out (wr.alloc (.cells #[.slice Af q cf, .int .i64 (fs : Int)] 87)).drew (fs) ((below_alloc wr (.cells #[.slice Af q cf, .int .i64 (fs : Int)] 87)).drew) (by omega))
        have HA := Lib.hid (fun A' c' W2 hO' hb2 => NX.out (wr.alloc (.cells #[.slice Af q cf, .int .i64 (fs : Int)] 87)).drew W2 A' (fs) c' (.slice Af q cf) (.int .i64 (fs : Int)) HZ.out ((below_alloc wr (.cells #[.slice Af q cf, .int .i64 (fs : Int)] 87)).drew) hO' hb2 (by simp [go_sem]) (by simp [go_sem]))
        clear FR NX HC hcast
        go_wp2_with fail
        go_region_held3 (fun W => W.cell? ⟨d, 1, none⟩ = some (.map (some m)) ∧ W.cell? ⟨wr.heap.size, 0, none⟩ = some (.slice Af q cf) ∧ W.cell? ⟨wr.heap.size, 1, none⟩ = some (.int .i64 (fs : Int)))
          (first | assumption | exact ⟨by simp [go_sem, *], by simp [go_sem], by simp [go_sem]⟩)
          (first | (go_at_call 39; (with_reducible refine Calls.mono C2.out ?_); rintro e w' ⟨A', c', rfl, hO', hb'⟩; obtain ⟨w3, p1, p2, p3, p4⟩ := HA.out A' c' w' hO' hb'; have P4 := Lib.hid p4; clear p4 hO' hb'))
        all_goals
          clear p1 p2 p3 HA C2
          go_wp2_with fail
          go_roundw
          case rel => exact ⟨i + 1, _, by go_num, by omega, P4⟩
          case measure => simp [intOf]; omega
    · obtain rfl : i = n := by omega
      have hdk := HI.out.dk
      have hcur : cur keep S.fs i = wkL keep 0 S.fs := by rw [← HN.out]; exact cur_all keep S.fs
      have hK := HI.out.kp
      have hF := HI.out.fp
      rw [hcur] at hdk hF
      have x2 := hdk.c2
      have f2 := hdk.free 2
      have E := Lib.hid (block_set wr d 2 (.bool true) _ _ _ hdk.blk)
      have HD := Lib.hid hdk
      have R := Lib.hid (And.intro hK hF)
      have hokT : Hid (Ok ⟨S.room, wkL keep 0 S.fs, true, S.falls, S.lit, S.acts, S.part⟩) := ⟨hdk.ok.rise, hdk.ok.room, hdk.ok.used, hdk.ok.many, hdk.ok.file, hdk.ok.acts, hdk.ok.part⟩
      clear hdk hcur hK hF HI
      go_wp2_with fail
      go_returns
      have T := turn_to (T := ⟨S.room, wkL keep 0 S.fs, true, S.falls, S.lit, S.acts, S.part⟩) HD.out (Keep.set (fun x => x = d) wr ⟨d, 2, none⟩ _ rfl) E.out hokT.out rfl
      refine ⟨rfl, _, T.1, R.out.1.trans T.2 (fun x hx e => ?_), fun x e => R.out.2 x e⟩
      rcases R.out.2 x e with e | e
      · exact e
      · omega
theorem wake_any {w : World} {d m : Nat} {V : ByteArray → Value} {S : St} (h : Dk w d m V S) (A : Option Addr) (k c : Nat) (keep : List Int) (hl : keep.length = k) (hi : Ints w A keep) (hfar : ∀ x, A = some x → ¬ Fp d m V S.fs x.block ∧ x.block < w.heap.size) (hk : k ≤ 1000000000) :
    Calls Tryz.prog 16 #[ptr d, .slice A k c] w (Woken w d m V S (woke S keep)) := by
  unfold woke
  cases hu : S.up with
  | true => exact wake_up h _ hu
  | false => exact wake_down h A k c keep hl hi hfar hk hu
end Go.Proofs.YtcodihgjfhoepaaGreatDoor
