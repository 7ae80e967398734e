/- Contracts, joined: SgG, SgH. -/
import Derived.Test.YtcodihgjfhoepaaGreatDoorSgF
import Derived.Test.YtcodihgjfhoepaaGreatDoorDkMap
/- A map of numbers by names in memory; which files stay. -/
namespace Go.Proofs.YtcodihgjfhoepaaGreatDoor
open Go Go.RowKit Go.Maps Go.Sort Crc Pk
open Go.WideElems (Fit)
set_option maxRecDepth 20000

def zi : Value := .int .i64 0
theorem mizero (w : World) : (zeroValue 3).run Tryz.prog w = .ok zi w := by unfold zi; kernel_rfl
structure MiD (w : World) (m N : Nat) (M : ByteArray → Option Value) (D : DataW Value) : Prop where
  own : w.ownsMap Tryz.prog 9 rdv m N D
  size : Maps.size D = N
  tell : ∀ k : ByteArray, k.size ≤ maxLen → Maps.has D (kl k) = (M k).isSome ∧ ∀ v, M k = some v → D.atKey (kl k) (.held zi) = .held v
def Mi (w : World) (m N : Nat) (M : ByteArray → Option Value) : Prop := ∃ D : DataW Value, MiD w m N M D
theorem Mi.new (w : World) : Mi (w.alloc (.map #[] 0)) w.heap.size 0 (fun _ => none) :=
  ⟨.map [], World.ownsMap_made w _ _ _, rfl, fun k _ => ⟨by simp [Maps.has], fun i h => by cases h⟩⟩
theorem Mi.lt {w : World} {m N : Nat} {M : ByteArray → Option Value} (h : Mi w m N M) : m < w.heap.size := by
  obtain ⟨D, h⟩ := h
  exact h.own.lt
theorem Mi.is {w : World} {m N : Nat} {M : ByteArray → Option Value} (h : Mi w m N M) : ∃ es clock, w.heap[m]? = some (.map es clock) := by
  obtain ⟨D, ⟨es, clock, hb, _⟩, _⟩ := h
  exact ⟨es, clock, hb⟩
theorem Mi.same {w w' : World} {m N : Nat} {M : ByteArray → Option Value} (h : Mi w m N M) (hb : w'.heap[m]? = w.heap[m]?) : Mi w' m N M := by
  obtain ⟨D, ⟨es, clock, hb', r⟩, r1, r2⟩ := h
  exact ⟨D, ⟨es, clock, hb.trans hb', r⟩, r1, r2⟩
theorem Mi.as {w : World} {m N N' : Nat} {M M' : ByteArray → Option Value} (h : Mi w m N M) (hn : N = N') (hM : ∀ k : ByteArray, k.size ≤ maxLen → M k = M' k) : Mi w m N' M' := by
  subst hn
  obtain ⟨D, h1, h2, h3⟩ := h
  exact ⟨D, h1, h2, fun k hk => by rw [← hM k hk]; exact h3 k hk⟩
theorem Mi.look {w : World} {m N : Nat} {M : ByteArray → Option Value} (h : Mi w m N M) {k : ByteArray} (hk : k.size ≤ maxLen) :
    (Instr.lookup 115 (.map (some m)) (.string k) true).run Tryz.prog w = .ok (.tuple #[(M k).getD zi, .bool (M k).isSome]) w := by
  obtain ⟨D, hD, _, hM⟩ := h
  obtain ⟨v, ps, hrun, hv⟩ := hD.look_ok mlaw Tryz.underlying115 (mizero w) (zd := .held zi) (zp := []) rfl (mkey hk)
  obtain ⟨h1, h2⟩ := hM k hk
  rw [hrun, h1]
  have hv' : DataW.held v = D.atKey (kl k) (.held zi) := by
    unfold rdv at hv
    injection hv with hv
    exact congrArg Prod.fst hv
  have e : v = (M k).getD zi := by
    cases hm : M k with
    | none =>
      rw [hm] at h1
      rw [atKey_of_not_has h1] at hv'
      injection hv'
    | some i =>
      rw [h2 i hm] at hv'
      injection hv'
  rw [e]
theorem Mi.put {w : World} {m N : Nat} {M : ByteArray → Option Value} (h : Mi w m N M) {k : ByteArray} (v : Value) (hk : k.size ≤ maxLen) (hN : N ≤ 1000000) :
    ∃ w', (Instr.mapUpdate 115 (.map (some m)) (.string k) v).run Tryz.prog w = .ok () w' ∧ Mi w' m (if (M k).isSome then N else N + 1) (upd M k (some v)) ∧ w.mapTurned w' m := by
  obtain ⟨D, hD, hs, hM⟩ := h
  obtain ⟨w', h1, h2, h3⟩ := hD.store mlaw Tryz.underlying115 (by unfold maxLen; omega) (mkey hk) (val := v) (d := .held v) (ps := []) rfl
  have hsz := size_put (k := kl k) (hD.tidy mlaw) (.held v)
  rw [(hM k hk).1, hs] at hsz
  have h4 := tight h2
  rw [hsz] at h4
  refine ⟨w', h1, ⟨_, h4, hsz, fun x hx => ?_⟩, h3⟩
  by_cases c : x = k
  · subst c
    rw [has_put_same hD.isMap (isKey x), atKey_put_same hD.isMap (isKey x)]
    simp [upd]
  · rw [has_put_other (kl_ne c), atKey_put_other (kl_ne c)]
    simp only [upd, c, if_false]
    exact hM x hx

/- which files stay -/
def tailOf (nm f : ByteArray) : ByteArray := ⟨((nl f).drop (nm.size + 1)).toArray⟩
theorem tail_fn (nm t : ByteArray) : tailOf nm (fn nm t) = t := nl_inj (by
  unfold tailOf
  simp only [nl]
  rw [show (fn nm t).data.toList = nl nm ++ 46 :: nl t from nl_fn nm t, size_nl nm, show nl nm ++ 46 :: nl t = (nl nm ++ [46]) ++ nl t by simp, List.drop_append_of_le_length (by simp)]
  rw [List.drop_of_length_le (by simp)]
  simp)
def tells (nm : ByteArray) (st : List Nat) (f : ByteArray) : Bool := st.any fun a => decide (fS nm a = f)
def stray (nm : ByteArray) (st : List Nat) (f : ByteArray) : Bool := !tells nm st f && isof (tailOf nm f) 48 57
def Plain (nm f : ByteArray) : Prop := ∃ t, f = fn nm t ∧ (∀ c ∈ nl t, c.toNat < 128) ∧ t.size ≤ 31
section
variable {B : Nat} {w w' : World} {d m : Nat} {V V' : ByteArray → Value} {S T : St} {g : Nat} {nm : ByteArray} {most : Nat} {sv rv sv' rv' : Value} {P P' : Nat → Prop} {L L' : Lg} {Q : Lg → Prop}
theorem fn_split (nm t : ByteArray) : fn nm t = fn nm ⟨#[]⟩ ++ t := nl_inj (by rw [nl_fn]; simp [nl, fn])
set_option maxHeartbeats 1000000 in
theorem has_any (p t : ByteArray) (hp : p.size ≤ 1000) (ht : t.size ≤ 1000) (w : World) :
    Calls Tryz.prog 130 #[.string (p ++ t), .string p] w fun e w' => e = .returned (.bool true) ∧ w = w' := by
  have hs : (p ++ t).size = p.size + t.size := ByteArray.size_append
  have sl : ∀ w, (Instr.slice 9 (.string (p ++ t)) none (some (.int .i64 (p.size : Int))) none).run Tryz.prog w = .ok (.string p) w := fun w => by
    rw [run_slice_string_h (P := Tryz.prog) (w := w) 9 (p ++ t) Tryz.underlying9 .i64 (p.size : Int) (by omega) (by omega), Int.toNat_natCast]
    have e : (p ++ t).extract 0 p.size = p := nl_inj (by simp [nl, ByteArray.data_extract]; exact List.take_of_length_le (by simp))
    rw [e]
  go_enter Tryz.func130, Tryz.ntmps130
  go_wp2_with fail
  go_ret
  exact ⟨rfl, rfl⟩
set_option maxHeartbeats 1000000 in
theorem cutp_any (p t : ByteArray) (hp : p.size ≤ 1000) (ht : t.size ≤ 1000) (w : World) :
    Calls Tryz.prog 70 #[.string (p ++ t), .string p] w fun e w' => e = .returned (.tuple #[.string t, .bool true]) ∧ w = w' := by
  have hs : (p ++ t).size = p.size + t.size := ByteArray.size_append
  have sl : ∀ w, (Instr.slice 9 (.string (p ++ t)) (some (.int .i64 (p.size : Int))) none none).run Tryz.prog w = .ok (.string t) w := fun w => by
    rw [run_slice_string_l (P := Tryz.prog) (w := w) 9 (p ++ t) Tryz.underlying9 .i64 (p.size : Int) (by omega) (by omega), Int.toNat_natCast]
    have e : (p ++ t).extract p.size (p ++ t).size = t := nl_inj (by
      simp [nl, ByteArray.data_extract]
      rw [List.drop_of_length_le (by simp), List.take_of_length_le (l := t.data.toList) (by simp)]
      simp)
    rw [e]
  have H := Lib.hid (has_any p t hp ht w)
  have I : Calls Tryz.prog 104 #[.string (p ++ t), .string p] w fun e w' => e = .returned (.tuple #[.string t, .bool true]) ∧ w = w' := by
    go_enter Tryz.func104, Tryz.ntmps104
    go_wp2_with fail
    refine H.out.mono ?_
    rintro e w1 ⟨rfl, rfl⟩
    go_wp2_with fail
    go_ret2
    exact ⟨rfl, rfl⟩
  have II := Lib.hid I
  clear H I
  go_enter Tryz.func70, Tryz.ntmps70
  go_wp2_with fail
  refine II.out.mono ?_
  rintro e w1 ⟨rfl, rfl⟩
  go_wp2_with fail
  go_ret2
  exact ⟨rfl, rfl⟩
set_option maxHeartbeats 2000000 in
theorem stays_any (h : Lo Q B w d m V S g nm most sv rv P L) (x0 x1 x2 N : Nat) (M : ByteArray → Option Value) (st : List Nat) (f : ByteArray) (hp : Plain nm f) (c0 : w.cell? ⟨x0, 0, none⟩ = some (ptr g)) (c2 : w.cell? ⟨x2, 0, none⟩ = some (.map (some x1)))
    (hm : Mi w x1 N M) (hM : (M f).isSome = tells nm st f) :
    Calls Tryz.prog 69 #[.string f, ptr x0, ptr x2] w fun e w' => e = .returned (.bool (!stray nm st f)) ∧ Below w.heap.size w w' := by
  obtain ⟨t, rfl, ha, ht⟩ := hp
  have hn := h.cf.nm
  have hs := size_fn nm t
  have F := Lib.hid (file_any h ⟨#[]⟩ (by decide))
  have C := Lib.hid (fun w => cutp_any (fn nm ⟨#[]⟩) t (by rw [size_fn]; show nm.size + 1 + 0 ≤ _; omega) (by omega) w)
  have I := Lib.hid (fun w => isof_any t 48 57 (by omega) (by omega) ha (by omega) w)
  have LK := hm.look (k := fn nm t) (by unfold maxLen; omega)
  have X : Hid (stray nm st (fn nm t) = (!(M (fn nm t)).isSome && isof t 48 57)) := Lib.hid (by unfold stray; rw [tail_fn, hM])
  rw [← fn_split] at C
  obtain ⟨ff, hff⟩ : ∃ ff, fn nm t = ff := ⟨_, rfl⟩
  rw [hff] at C LK X hs ⊢
  obtain ⟨pp, hpp⟩ : ∃ pp, fn nm ⟨#[]⟩ = pp := ⟨_, rfl⟩
  rw [hpp] at C F
  obtain ⟨mv, hmv⟩ : ∃ mv, M ff = mv := ⟨_, rfl⟩
  rw [hmv] at LK X
  clear h ha hm hM hff hpp hmv
  rcases mv with _ | vv
  · have LK' : (Instr.lookup 115 (.map (some x1)) (.string ff) true).run Tryz.prog w = .ok (.tuple #[zi, .bool false]) w := LK
    obtain ⟨r, hr⟩ : ∃ r, isof t 48 57 = r := ⟨_, rfl⟩
    rw [hr] at I X
    have X' : Hid (stray nm st ff = r) := Lib.hid (by rw [X.out]; simp)
    clear LK X hr
    unfold zi at LK'
    go_enter Tryz.func69, Tryz.ntmps69
    go_wp2_with fail
    refine F.out.mono ?_
    rintro e w1 ⟨rfl, rfl⟩
    go_wp2_with fail
    refine (C.out _).mono ?_
    rintro e w2 ⟨rfl, hw⟩
    subst hw
    go_wp2_with (go_at_call 62; refine (I.out _).mono ?_; rintro e w3 ⟨rfl, hb⟩)
    go_ret
    exact ⟨by rw [X'.out]; rfl, hb⟩
  · obtain ⟨u, hu⟩ : ∃ u, (Option.some vv).getD zi = u := ⟨_, rfl⟩
    have LK' : (Instr.lookup 115 (.map (some x1)) (.string ff) true).run Tryz.prog w = .ok (.tuple #[u, .bool true]) w := by rw [← hu]; exact LK
    have X' : Hid (stray nm st ff = false) := Lib.hid (by rw [X.out]; simp)
    clear LK X hu
    go_enter Tryz.func69, Tryz.ntmps69
    go_wp2_with fail
    refine F.out.mono ?_
    rintro e w1 ⟨rfl, rfl⟩
    go_wp2_with fail
    refine (C.out _).mono ?_
    rintro e w2 ⟨rfl, hw⟩
    subst hw
    go_wp2_with fail
    go_ret
    exact ⟨by rw [X'.out]; rfl, Below.refl _ _⟩
end
end Go.Proofs.YtcodihgjfhoepaaGreatDoor

/- Files that no manifest tells go. -/
namespace Go.Proofs.YtcodihgjfhoepaaGreatDoor
open Go Go.RowKit Go.Maps Go.Sort Crc Pk
set_option maxRecDepth 20000

def sty (nm : ByteArray) (st : List Nat) : List ByteArray → St → Nat × St
  | [], S => (0, S)
  | f :: t, S => if stray nm st f then (if delE S f ≠ 0 then (delE S f, delS S f) else sty nm st t (delS S f)) else sty nm st t S
theorem tells_next (nm : ByteArray) (l : List Nat) (i : Nat) (hi : i < l.length) (k : ByteArray) : tells nm (l.take (i + 1)) k = (tells nm (l.take i) k || decide (fS nm (l.getD i 0) = k)) := by
  unfold tells
  rw [take_snocN l i hi, List.any_append]
  simp
theorem drop_map_cons (l : List Fl) (j : Nat) (hj : j < l.length) : (l.map Fl.nm).drop j = (l.getD j fz).nm :: (l.map Fl.nm).drop (j + 1) := by
  rw [List.drop_eq_getElem_cons (by simpa using hj), List.getD_eq_getElem?_getD, List.getElem?_eq_getElem hj]
  simp
section
variable {B : Nat} {w w' : World} {d m : Nat} {V V' : ByteArray → Value} {S T : St} {g : Nat} {nm : ByteArray} {most : Nat} {sv rv sv' rv' : Value} {P P' : Nat → Prop} {L L' : Lg} {Q : Lg → Prop}
abbrev wA (w : World) (g : Nat) : World := ((w.alloc (.cells #[ptr g] 35)).alloc (.map #[] 0)).alloc (.cells #[.map (some (w.heap.size + 1))] 115)
set_option maxHeartbeats 8000000 in
theorem strays_any (h : Lo Qo B w d m V S g nm most sv rv P L) (hpl : ∀ f ∈ S.fs, Plain nm f.nm) (u : Nat × St) (hU : sty nm L.st (S.fs.map Fl.nm) S = u) :
    Calls Tryz.prog 43 #[ptr g] w (LAo Qo B w d m V S g nm most sv rv P u.1 u.2 L) := by
  have hmm := @run_makeMap Tryz.prog
  have bA : Below w.heap.size w (wA w g) := ((below_alloc w _).trans ((below_alloc _ _).mono (by simp))).trans ((below_alloc _ _).mono (by simp; omega))
  have hA := h.below bA
  have sA : (wA w g).heap.size = w.heap.size + 3 := by simp [wA]
  have x0 : (wA w g).cell? ⟨w.heap.size, 0, none⟩ = some (ptr g) := by simp [wA, go_sem]
  have x2 : (wA w g).cell? ⟨w.heap.size + 2, 0, none⟩ = some (.map (some (w.heap.size + 1))) := by simp [wA, go_sem]
  have hm0 : Mi (wA w g) (w.heap.size + 1) 0 (fun _ => none) := by
    have h1 := Mi.new (w.alloc (.cells #[ptr g] 35))
    have e : (w.alloc (.cells #[ptr g] 35)).heap.size = w.heap.size + 1 := by simp
    rw [e] at h1
    exact h1.same ((below_alloc _ _).block _ (by simp))
  have HH := Lib.hid h
  have HA := Lib.hid hA
  have BA := Lib.hid bA
  have SA := Lib.hid sA
  have HM := Lib.hid hm0
  have HP := Lib.hid hpl
  have UU := Lib.hid hU
  have XA := Lib.hid (And.intro x0 x2)
  obtain ⟨A, c, hsv, hu, hc, hz, hx⟩ := h.st.form
  have c3 := hA.c3
  rw [hsv] at c3
  have HUU := Lib.hid (hu.below bA)
  have AX := Lib.hid (fun x e => (hx x e).1)
  have hql := h.wf.len
  obtain ⟨q, hq⟩ : ∃ q, L.st.length = q := ⟨_, rfl⟩
  rw [hq] at c3 hc hql
  have QQ := Lib.hid hq
  clear h hA bA hm0 hpl hU hsv hu hz hx hq
  go_enter Tryz.func43, Tryz.ntmps43
  go_wp2_with fail
  have LOK := Lib.hid (fun (W : World) (k : Keep (fun x => x = w.heap.size + 1) (wA w g) W) => HA.out.keep k (fun x hx e => by have := HH.out.mlt x hx; omega) (fun x hx e => by have := (HH.out.far x hx).2; omega) (fun x hx e => by have := HH.out.st.lt x hx; omega) (fun x e => by have := HH.out.bw; have := HH.out.gl; omega))
  go_loopw [16] (fun s wr => ∃ (i : Nat), s = .int .i64 i ∧ i ≤ q ∧ Hid (∃ M N, Mi wr (w.heap.size + 1) N M ∧ N ≤ i ∧ (∀ k, (M k).isSome = tells nm (L.st.take i) k) ∧ Keep (fun x => x = w.heap.size + 1) (wA w g) wr)) (fun s _ => q - (intOf s).toNat)
  case atStart => exact ⟨0, rfl, Nat.zero_le _, fun _ => none, 0, HM.out, Nat.le_refl _, fun k => by simp [tells], Keep.refl _ _⟩
  case round =>
    obtain ⟨i, rfl, hi, HI⟩ := hrel
    obtain ⟨M, N, mi, hN, hM, kk⟩ := HI.out
    have KK := Lib.hid kk
    have LW := Lib.hid (LOK.out wr kk)
    have X0 := Lib.hid (fun (W : World) (hb : Below wr.heap.size wr W) => (show W.cell? ⟨w.heap.size, 0, none⟩ = some (ptr g) from by
      have h1 := kk.cell XA.out.1 (by simp)
      exact (hb.cell (World.block_lt_of_cell? _ _ h1)).trans h1))
    have X2 := Lib.hid (fun (W : World) (hb : Below wr.heap.size wr W) => (show W.cell? ⟨w.heap.size + 2, 0, none⟩ = some (.map (some (w.heap.size + 1))) from by
      have h1 := kk.cell XA.out.2 (by simp)
      exact (hb.cell (World.block_lt_of_cell? _ _ h1)).trans h1))
    have MI := Lib.hid mi
    have HMM := Lib.hid hM
    by_cases ci : i < q
    · have hus := (HUU.out.keep kk (fun x e f => by have := AX.out x e; omega)) i (by rw [QQ.out]; exact ci)
      obtain ⟨b, off, rfl, x0⟩ := hus
      have ci' : (i : Int) < (q : Int) := by omega
      have ci0 : (0 : Int) ≤ (i : Int) := by omega
      have cic : (i : Int) ≤ (c : Int) := by omega
      have vb : L.st.getD i 0 ≤ 1000 := HH.out.wf.nums _ (getD_mem L.st i (by rw [QQ.out]; exact ci))
      have SG := Lib.hid (fun (W : World) (hb : Below wr.heap.size wr W) => seg_any (LW.out.below hb) (L.st.getD i 0) (by omega))
      have TN := Lib.hid (tells_next nm L.st i (by rw [QQ.out]; exact ci))
      have FS := Lib.hid (fS_small (n := L.st.getD i 0) HH.out.cf.nm (by omega))
      obtain ⟨v, hv⟩ : ∃ v, L.st.getD i 0 = v := ⟨_, rfl⟩
      rw [hv] at x0 SG TN FS
      have PUT := Lib.hid (fun (W : World) (hb : Below wr.heap.size wr W) => (MI.out.same (hb.block _ MI.out.lt)).put (k := fS nm v) (.int .i64 (i : Int)) (by have := FS.out; unfold maxLen; omega) (by omega))
      have c00 := X0.out wr (Below.refl _ _)
      have c22 := X2.out wr (Below.refl _ _)
      clear mi hM kk HI hv vb
      go_wp2_with fail
      go_region_law (go_simp; go_at_call 68; refine (SG.out _ (below_drewN _ _ _)).mono ?_; rintro e w8 ⟨rfl, b8⟩; have B8 := Lib.hid ((below_drewN wr.heap.size wr 1).trans b8); have d0 := X0.out w8 B8.out; have d2 := X2.out w8 B8.out; obtain ⟨w9, hrun, hmi9, ht9⟩ := PUT.out w8 B8.out; have M9 := Lib.hid (And.intro hmi9 ht9); clear b8 hmi9 ht9)
      all_goals
        go_wp2_with fail
        go_roundw
        case rel =>
          refine ⟨i + 1, by go_num, by omega, _, _, M9.out.1, by split <;> omega, fun k => ?_, KK.out.tr ((Keep.of_below _ B8.out).tr (Keep.turned M9.out.2 rfl))⟩
          rw [TN.out, ← HMM.out k]
          unfold upd
          by_cases e : k = fS nm v
          · subst e; simp
          · rw [if_neg e]
            have : decide (fS nm v = k) = false := by simpa using fun h => e h.symm
            rw [this, Bool.or_false]
        case measure => simp [intOf]; omega
    · obtain rfl : i = q := by omega
      have hMq : ∀ k, (M k).isSome = tells nm L.st k := fun k => by rw [hM k, List.take_of_length_le (by rw [QQ.out]; exact Nat.le_refl _)]
      have HMQ := Lib.hid hMq
      have LS := Lib.hid (list_any LW.out.dk)
      have c00 := X0.out wr (Below.refl _ _)
      have cd0 := LW.out.c0
      obtain ⟨nf, hnf⟩ : ∃ nf, S.fs.length = nf := ⟨_, rfl⟩
      have NF := Lib.hid hnf
      have hmany := LW.out.dk.ok.many
      rw [hnf] at hmany
      have SW : Hid (w.heap.size + 3 ≤ wr.heap.size) := Lib.hid (by have := kk.size; rw [SA.out] at this; exact this)
      have KW : Hid (Keep (Mu d m V S.fs g rv) w wr) := Lib.hid ((Keep.of_below _ BA.out).trans kk (fun x hx e => by omega))
      clear mi hM kk HI hMq HMM hnf c3 ci
      go_wp2_with fail
      refine LS.out.mono ?_
      rintro e w1 ⟨A1, c1, rfl, n1, a1, b1⟩
      rw [NF.out]
      have B1 := Lib.hid b1
      have N1 := Lib.hid n1
      have A1H := Lib.hid a1
      have L1 := Lib.hid (LW.out.below b1)
      have Y0 := Lib.hid (X0.out w1 b1)
      have Y2 := Lib.hid (X2.out w1 b1)
      have YM := Lib.hid (MI.out.same (b1.block _ MI.out.lt))
      have ST := Lib.hid (fun (W : World) (V' : ByteArray → Value) (S' : St) (hl : Lo Qo B W d m V' S' g nm most sv rv P L) (f : ByteArray) (hp : Plain nm f) (k0 : W.cell? ⟨w.heap.size, 0, none⟩ = some (ptr g)) (k2 : W.cell? ⟨w.heap.size + 2, 0, none⟩ = some (.map (some (w.heap.size + 1)))) (km : Mi W (w.heap.size + 1) N M) =>
        stays_any hl w.heap.size (w.heap.size + 1) (w.heap.size + 2) N M L.st f hp k0 k2 km (HMQ.out f))
      have KF := Lib.hid (fun (W : World) (k : Keep (Mu d m V S.fs g rv) w1 W) => (show W.cell? ⟨w.heap.size, 0, none⟩ = some (ptr g) ∧ W.cell? ⟨w.heap.size + 2, 0, none⟩ = some (.map (some (w.heap.size + 1))) ∧ Mi W (w.heap.size + 1) N M ∧ Nms W A1 S.fs from
        ⟨k.cell Y0.out (fun e => absurd (HH.out.mlt _ e) (Nat.lt_irrefl _)), k.cell Y2.out (fun e => absurd (HH.out.mlt _ e) (Nat.not_lt.2 (Nat.le_add_right _ _))), YM.out.same (k.block _ YM.out.lt (fun e => by have := HH.out.mlt _ e; omega)), N1.out.keep k (fun x e f => by have := HH.out.mlt _ f; have := (A1H.out x e).1; have := SW.out; omega)⟩))
      have K1 : Hid (Keep (Mu d m V S.fs g rv) w w1) := Lib.hid (KW.out.tr (Keep.of_below _ B1.out))
      clear b1 n1 a1 LS X0 X2 MI c00 cd0
      go_wp2_with fail
      go_loopw [34] (fun s wr2 => ∃ (j : Nat) (Vj : ByteArray → Value) (Sj : St), s = .int .i64 j ∧ j ≤ nf ∧ Hid (Lo Qo B wr2 d m Vj Sj g nm most sv rv P L ∧ Keep (Mu d m V S.fs g rv) w1 wr2 ∧ (∀ x, Mu d m Vj Sj.fs g rv x → Mu d m V S.fs g rv x ∨ w1.heap.size ≤ x) ∧ sty nm L.st ((S.fs.map Fl.nm).drop j) Sj = u)) (fun s _ => nf - (intOf s).toNat)
      case atStart => exact ⟨0, V, S, rfl, Nat.zero_le _, L1.out, Keep.refl _ _, fun x hx => .inl hx, by rw [List.drop_zero]; exact UU.out⟩
      case round =>
        obtain ⟨j, Vj, Sj, rfl, hj, HJ⟩ := hrel
        obtain ⟨lj, kj, mj, uj⟩ := HJ.out
        by_cases cj : j < nf
        · obtain ⟨y0, y2, ym, yn⟩ := KF.out wr kj
          obtain ⟨b, off, rfl, x0⟩ := yn j (by rw [NF.out]; exact cj)
          have cj' : (j : Int) < (nf : Int) := by omega
          have cj0 : (0 : Int) ≤ (j : Int) := by omega
          have hpj := HP.out _ (getD_in S.fs j (by rw [NF.out]; exact cj))
          have DC := drop_map_cons S.fs j (by rw [NF.out]; exact cj)
          rw [DC] at uj
          have sz : (S.fs.getD j fz).nm.size ≤ 100 := by have := (HH.out.dk.ok.file _ (getD_in S.fs j (by rw [NF.out]; exact cj))).n2; omega
          obtain ⟨f, hf⟩ : ∃ f, (S.fs.getD j fz).nm = f := ⟨_, rfl⟩
          rw [hf] at x0 hpj uj sz
          have LJ := Lib.hid lj
          have KJ := Lib.hid kj
          have MJ := Lib.hid mj
          have SS := Lib.hid (ST.out wr Vj Sj lj f hpj y0 y2 ym)
          have U1 := Lib.hid (fun (hs : stray nm L.st f = false) => (show sty nm L.st ((S.fs.map Fl.nm).drop (j + 1)) Sj = u by rw [← uj]; show _ = (if _ then _ else _); rw [if_neg (by rw [hs]; decide)]))
          have U2 := Lib.hid (fun (hs : stray nm L.st f = true) (h0 : delE Sj f ≠ 0) => (show u = (delE Sj f, delS Sj f) by rw [← uj]; show (if _ then _ else _) = _; rw [if_pos hs, if_pos h0]))
          have U3 := Lib.hid (fun (hs : stray nm L.st f = true) (h0 : delE Sj f = 0) => (show sty nm L.st ((S.fs.map Fl.nm).drop (j + 1)) (delS Sj f) = u by rw [← uj]; show _ = (if _ then _ else _); rw [if_pos hs, if_neg (by omega)]))
          clear lj kj mj uj HJ hf DC hpj y2 ym yn
          go_wp2_with fail
          refine SS.out.mono ?_
          rintro e w3 ⟨rfl, b3⟩
          have B3 := Lib.hid b3
          have L3 := Lib.hid (LJ.out.below b3)
          have K3 := Lib.hid (KJ.out.tr (Keep.of_below _ b3))
          have M3 := Lib.hid MJ.out
          clear b3 SS
          obtain ⟨sb, hsb⟩ : ∃ sb, stray nm L.st f = sb := ⟨_, rfl⟩
          rw [hsb]
          rw [hsb] at U1 U2 U3
          clear hsb
          cases sb
          · have UN := Lib.hid (U1.out rfl)
            clear U1 U2 U3
            go_wp2_with fail
            go_roundw
            case rel => exact ⟨j + 1, Vj, Sj, by go_num, by omega, L3.out, K3.out, M3.out, UN.out⟩
            case measure => simp [intOf]; omega
          · have U2' := Lib.hid (U2.out rfl)
            have U3' := Lib.hid (U3.out rfl)
            clear U1 U2 U3
            have z0 := (KF.out w3 K3.out).1
            have zc := L3.out.c0
            have DE := Lib.hid (delete_any L3.out.dk f (big_of sz (by omega)))
            obtain ⟨nd, hnd⟩ : ∃ nd, delE Sj f = nd := ⟨_, rfl⟩
            obtain ⟨Sd, hSd⟩ : ∃ Sd, delS Sj f = Sd := ⟨_, rfl⟩
            rw [hnd, hSd] at DE U2' U3'
            clear hnd hSd
            go_wp2_with fail
            refine DE.out.mono ?_
            intro e w4 ha
            obtain ⟨rfl, V4, h4, k4, m4⟩ := L3.out.acted ha
            have H4 := Lib.hid h4
            have K4 : Hid (Keep (Mu d m V S.fs g rv) w1 w4) := Lib.hid (K3.out.trans k4 (fun x hx e => (M3.out x e).resolve_right (by omega)))
            have M4 : Hid (∀ x, Mu d m V4 Sd.fs g rv x → Mu d m V S.fs g rv x ∨ w1.heap.size ≤ x) := Lib.hid (fun x hx => by
              have := K3.out.size
              rcases m4 x hx with h | h
              · exact M3.out x h
              · exact .inr (by omega))
            clear h4 k4 m4 ha DE
            by_cases cd : nd = 0
            · have cd' : (nd : Int) = 0 := by omega
              have UN := Lib.hid (U3'.out cd)
              clear U2' U3'
              go_wp2_with fail
              go_roundw
              case rel => exact ⟨j + 1, V4, Sd, by go_num, by omega, H4.out, K4.out, M4.out, UN.out⟩
              case measure => simp [intOf]; omega
            · have cd' : ¬ ((nd : Int) = 0) := by omega
              have UN := Lib.hid (U2'.out cd)
              clear U2' U3'
              go_wp2_with fail
              go_ret
              rw [UN.out]
              exact ⟨rfl, V4, H4.out, K1.out.tr K4.out, fun x hx => (M4.out x hx).imp id (fun e => Nat.le_trans K1.out.size e)⟩
        · obtain rfl : j = nf := by omega
          have UN : Hid (u = (0, Sj)) := Lib.hid (by
            rw [← uj, List.drop_of_length_le (by rw [List.length_map, NF.out]; exact Nat.le_refl _)]; rfl)
          have LJ := Lib.hid lj
          have KJ := Lib.hid kj
          have MJ := Lib.hid mj
          clear lj kj mj uj HJ
          go_wp2_with fail
          go_ret
          rw [UN.out]
          exact ⟨rfl, Vj, LJ.out, K1.out.tr KJ.out, fun x hx => (MJ.out x hx).imp id (fun e => Nat.le_trans K1.out.size e)⟩
end
end Go.Proofs.YtcodihgjfhoepaaGreatDoor
