/- Append. -/
import Derived.Test.YtcodihgjfhoepaaGreatDoorDkTru
namespace Go.Proofs.YtcodihgjfhoepaaGreatDoor
open Go Go.RowKit
set_option maxRecDepth 20000

theorem Byt.keep {w w' : World} {A : Option Addr} {l : List Int} {F : Nat → Prop} (h : Byt w A l) (hk : Keep F w w') (hF : ∀ x, A = some x → ¬ F x.block) : Byt w' A l :=
  ⟨fun i hi => by
    obtain ⟨b, off, e, hc⟩ := h.1 i hi
    exact ⟨b, off, e, hk.cell hc (hF ⟨b, off, none⟩ e)⟩, h.2⟩
/- the file that bytes are put on: one that is there, or a new one -/
theorem Dk.oldRow {w : World} {d m : Nat} {V : ByteArray → Value} {S : St} (h : Dk w d m V S) (s : ByteArray) (hs : s.size ≤ maxLen) :
    ∃ A q c, (Instr.lookup 79 (.map (some m)) (.string s) false).run Tryz.prog w = .ok (.agg #[.slice A q c, .int .i64 ((old S s).sf : Int)]) w ∧ (old S s).bs.length = q ∧ Own w 0 (.slice A q c) (old S s).bs ∧ q ≤ 16777216 ∧
      ∀ x, (Value.slice A q c).ownBlock = some x → (V s).ownBlock = some x ∧ ∃ f ∈ S.fs, f.nm = s := by
  have L := h.mp.look1 hs
  unfold old
  cases hf : fnd S.fs s with
  | none =>
    rw [tell_none hf] at L
    exact ⟨none, 0, 0, L, rfl, Own.nil _ _, by omega, fun x hx => by cases hx⟩
  | some f =>
    obtain ⟨A, c, eV, hO, hB, _, hl⟩ := h.file hf
    rw [tell_some hf, eV] at L
    exact ⟨A, f.bs.length, c, L, rfl, hO, hl, fun x hx => ⟨by rw [eV]; exact hx, f, (fnd_mem hf).1, (fnd_mem hf).2⟩⟩
theorem grown_keep {w w' : World} {v : Value} (h : w.grownBy w' v.ownBlock) : Keep (fun x => v.ownBlock = some x) w w' := Keep.grown h (fun _ e => e)
theorem Dk.appAt {w w3 : World} {d m : Nat} {V : ByteArray → Value} {S : St} (h : Dk w d m V S) (g : Fl) (hs : g.nm.size ≤ maxLen) (A : Option Addr) (q c : Nat) (xs : List Int) (hv : Own w 0 (.slice A q c) xs)
    (hvb : ∀ x, (Value.slice A q c).ownBlock = some x → (V g.nm).ownBlock = some x ∧ ∃ f ∈ S.fs, f.nm = g.nm) (x1 : Value) (v' : Value)
    (hO : Own w3 0 v' g.bs) (hgr : (w.alloc (.cells #[.slice A q c, x1] 87)).grownBy w3 (Value.slice A q c).ownBlock)
    (hv' : v'.ownBlock = (Value.slice A q c).ownBlock ∨ v'.ownBlock = some (w.alloc (.cells #[.slice A q c, x1] 87)).heap.size)
    (hl : Ok (withFs S (wi S.fs g))) :
    (w3.cell? ⟨w.heap.size, 0, none⟩ = some (.slice A q c) ∧ w3.cell? ⟨w.heap.size, 1, none⟩ = some x1 ∧ w3.frozen? ⟨w.heap.size, 0, none⟩ = false ∧ w3.cell? ⟨d, 1, none⟩ = some (.map (some m))) ∧
    ∃ w5, (Instr.mapUpdate 79 (.map (some m)) (.string g.nm) (.agg #[v', .int .i64 (g.sf : Int)])).run Tryz.prog (w3.setCell ⟨w.heap.size, 0, none⟩ v').drew = .ok () w5 ∧
      Dk w5 d m (updV V g.nm v') (withFs S (wi S.fs g)) ∧ Keep (Fp d m V S.fs) w w5 ∧ ∀ x, Fp d m (updV V g.nm v') (wi S.fs g) x → Fp d m V S.fs x ∨ w.heap.size ≤ x := by
  have b0 := below_alloc w (.cells #[.slice A q c, x1] 87)
  have K3 := grown_keep hgr
  have vlt : ∀ x, (Value.slice A q c).ownBlock = some x → x < w.heap.size := fun x hx => (hv.lt x hx).2
  have hbx : w3.heap[w.heap.size]? = some (.cells #[.slice A q c, x1] 87 (0, 0)) := by
    rw [K3.block w.heap.size (by simp) (fun e => by have := vlt _ e; omega)]
    exact heap_alloc_new w _
  have hd : d < w.heap.size := h.lt d (.inl rfl)
  have hdn : ¬ (Value.slice A q c).ownBlock = some d := fun e => (h.off hv e).1 rfl
  have c1 : w3.cell? ⟨d, 1, none⟩ = some (.map (some m)) := K3.cell ((b0.cell (p := ⟨d, 1, none⟩) hd).trans h.c1) hdn
  have KA : Keep (fun x => (V g.nm).ownBlock = some x ∧ ∃ f ∈ S.fs, f.nm = g.nm) w w3 := (Keep.of_below _ b0).trans K3 (fun i _ e => hvb i e)
  have KB : Keep (fun x => (V g.nm).ownBlock = some x ∧ ∃ f ∈ S.fs, f.nm = g.nm) w (w3.setCell ⟨w.heap.size, 0, none⟩ v').drew := (KA.trans (Keep.set (fun x => x = w.heap.size) w3 ⟨w.heap.size, 0, none⟩ v' rfl) (fun i hi e => by omega)).drew
  have nb : ∀ x, v'.ownBlock = some x → ((Value.slice A q c).ownBlock = some x) ∨ x = w.heap.size + 1 := fun x hx => by
    rcases hv' with e | e
    · exact .inl (e ▸ hx)
    · rw [e] at hx
      injection hx with hx
      exact .inr (by rw [← hx]; simp)
  have hO' : Own (w3.setCell ⟨w.heap.size, 0, none⟩ v').drew 0 v' g.bs := hO.same (fun k hk => by
    refine heap_setCell_other w3 ⟨w.heap.size, 0, none⟩ k v' (fun e => ?_)
    rcases nb k hk with e' | e'
    · have := vlt k e'
      simp only at e
      omega
    · simp only at e
      omega)
  obtain ⟨w5, p1, p2, p3, p4⟩ := h.putAt (W := (w3.setCell ⟨w.heap.size, 0, none⟩ v').drew) g v' (wi S.fs g) hs KB hO' (fun x hx f hf hne e => by
    rcases nb x hx with e' | e'
    · obtain ⟨e1, f2, hf2, e2⟩ := hvb x e'
      exact hne ((h.apart f hf f2 hf2 x e (by rw [e2]; exact e1)).trans e2)
    · have := ((h.row f hf).lt x e).2
      omega) hl (wi_hn h.ok.rise g) (fnd_wi h.ok.rise g)
  refine ⟨⟨by simp [World.cell?, hbx], by simp [World.cell?, hbx], by simp [World.frozen?, hbx], c1⟩, w5, p1, p2, p3, fun x hx => ?_⟩
  rcases p4 x hx with e | e
  · exact .inl e
  · rcases nb x e with e' | e'
    · obtain ⟨e1, f2, hf2, e2⟩ := hvb x e'
      exact .inl (.inr (.inr ⟨f2, hf2, by rw [e2]; exact e1⟩))
    · exact .inr (by omega)
theorem append_nil (s : ByteArray) (v : Value) (w : World) : Calls Tryz.prog 75 #[.pointer none, .string s, v] w fun e w' => e = .returned (.int .i64 9) ∧ w = w' := by
  have C := Lib.hid (up_nil w)
  go_enter Tryz.func75, Tryz.ntmps75
  go_wp2_with fail
  refine C.out.mono ?_
  rintro e w1 ⟨rfl, rfl⟩
  go_wp2_with fail
  go_ret
  exact ⟨rfl, rfl⟩
theorem append_down {w : World} {d m : Nat} {V : ByteArray → Value} {S : St} (h : Dk w d m V S) (s : ByteArray) (v : Value) (hu : S.up = false) :
    Calls Tryz.prog 75 #[ptr d, .string s, v] w (Acted w d m V S 9 S) := by
  have C := Lib.hid (up_any h)
  rw [hu] at C
  have H := Lib.hid h
  clear h hu
  go_enter Tryz.func75, Tryz.ntmps75
  go_wp2_with fail
  refine C.out.mono ?_
  rintro e w1 ⟨rfl, rfl⟩
  go_wp2_with fail
  go_ret
  exact Acted.same H.out (Keep.refl _ _) rfl
/- what is put on, cut off or not -/
theorem put_len (S : St) (b : List Int) : (putOn S b).length = if cutOff S then S.part % (b.length + 1) else b.length := by
  unfold putOn
  split
  · rw [List.length_take]
    have := Nat.mod_lt S.part (show 0 < b.length + 1 by omega)
    omega
  · rfl
set_option maxHeartbeats 2000000 in
theorem append_no {w : World} {d m : Nat} {V : ByteArray → Value} {S : St} (h : Dk w d m V S) (s : ByteArray) (hs : s.size ≤ maxLen) (A : Option Addr) (k c : Nat) (hkc : k ≤ c) (hk : k ≤ 1000000000) (hu : S.up = true) (hr : refuse S s k ≠ 0) (n9 : Nat) (h9 : (if cutOff S then 9 else refuse S s k) = n9) :
    Calls Tryz.prog 75 #[ptr d, .string s, .slice A k c] w (Acted w d m V S n9 (tick S)) := by
  have H9 := Lib.hid h9
  clear h9
  have C := Lib.hid (up_any h)
  rw [hu] at C
  have C1 := Lib.hid (refuses_any h s k hs)
  have C2 := Lib.hid (fun W (hb : Below w.heap.size w W) => cuts_any (h.below hb))
  have C6 := Lib.hid (fun W (hb : Below w.heap.size w W) => (h.below hb).c6)
  have HF := Lib.hid (tick_fs S)
  have hr' : ((refuse S s k : Int) == 0) = false := by simp; omega
  clear h hu
  generalize refuse S s k = er at *
  generalize S.part = part at *
  obtain ⟨r, hrm, hrk⟩ : ∃ r : Nat, (part : Int) % ((k : Int) + 1) = (r : Int) ∧ r ≤ k := ⟨part % (k + 1), by simp, by have := Nat.mod_lt part (show 0 < k + 1 by omega); omega⟩
  have hk0 : (0 : Int) ≤ (r : Int) := by omega
  have hk1 : (r : Int) ≤ (c : Int) := by omega
  go_enter Tryz.func75, Tryz.ntmps75
  go_wp2_with fail
  refine C.out.mono ?_
  rintro e w1 ⟨rfl, rfl⟩
  clear C
  go_wp2_with fail
  refine C1.out.mono ?_
  rintro e w1 ⟨rfl, hb1⟩
  have c6 := C6.out w1 hb1
  have CC := Lib.hid (C2.out w1 hb1)
  have B1 := Lib.hid hb1
  clear C1 C2 C6 hb1
  generalize cutOff S = ct at *
  go_wp2_with fail
  refine CC.out.mono ?_
  rintro e w2 ⟨rfl, h1, h2⟩
  have H1 := Lib.hid h1
  have H2 := Lib.hid h2
  clear h1 h2 CC
  cases ct
  · go_wp2_with fail
    go_ret
    obtain rfl : er = n9 := by simpa using H9.out
    exact Acted.same H1.out ((Keep.of_below _ B1.out).tr H2.out) HF.out
  · go_wp2_with fail
    go_ret
    obtain rfl : 9 = n9 := by simpa using H9.out
    exact Acted.same H1.out ((Keep.of_below _ B1.out).tr H2.out) HF.out
theorem old_tick (S : St) (s : ByteArray) : old (tick S) s = old S s := by unfold old; rw [tick_fs]
theorem app_ok {S : St} (h : Ok S) {s : ByteArray} {b : List Int} (hb : ∀ c ∈ b, 0 ≤ c ∧ c < 256) (hr : refuse S s b.length = 0) : Ok (withFs (tick S) (wi S.fs (appF S s b))) := by
  obtain ⟨h1, h2, h3⟩ := appF_ok h hb hr
  exact h.put h1 h2 h3 h.tick (tick_room S)
set_option maxHeartbeats 2000000 in
theorem append_all {w : World} {d m : Nat} {V : ByteArray → Value} {S : St} (h : Dk w d m V S) (s : ByteArray) (hs : s.size ≤ maxLen) (A : Option Addr) (k c : Nat) (b : List Int) (hl : b.length = k) (hb : Byt w A b) (hz : A = none → c = 0) (hfar : ∀ x, A = some x → ¬ Fp d m V S.fs x.block) (hkc : k ≤ c) (hk : k ≤ 1000000) (hu : S.up = true) (hr : refuse S s k = 0) (hct : cutOff S = false) :
    Calls Tryz.prog 75 #[ptr d, .string s, .slice A k c] w (Acted w d m V S 0 (withFs (tick S) (wi S.fs (appF S s b)))) := by
  have C := Lib.hid (up_any h)
  rw [hu] at C
  have C1 := Lib.hid (refuses_any h s k hs)
  rw [hr] at C1
  have C2 := Lib.hid (fun W (hb : Below w.heap.size w W) => cuts_any (h.below hb))
  rw [hct] at C2
  have C6 := Lib.hid (fun W (hb : Below w.heap.size w W) => (h.below hb).c6)
  have HF := Lib.hid (tick_fs S)
  have HOK := Lib.hid (app_ok h.ok hb.2 (by rw [hl]; exact hr))
  have HRG := Lib.hid (old_ok h.ok s)
  have HP := Lib.hid (show putOn S b = b by unfold putOn; rw [hct]; rfl)
  have HL := Lib.hid hl
  have HB := Lib.hid hb
  have HZ := Lib.hid hz
  have HFAR := Lib.hid hfar
  clear h hu hr hct hb hz hfar hl
  go_enter Tryz.func75, Tryz.ntmps75
  go_wp2_with fail
  refine C.out.mono ?_
  rintro e w1 ⟨rfl, rfl⟩
  clear C
  go_wp2_with fail
  refine C1.out.mono ?_
  rintro e w1 ⟨rfl, hb1⟩
  have c6 := C6.out w1 hb1
  have CC := Lib.hid (C2.out w1 hb1)
  have B1 := Lib.hid hb1
  clear C1 C2 C6 hb1
  go_wp2_with fail
  refine CC.out.mono ?_
  rintro e w2 ⟨rfl, h1, h2⟩
  have c1 := h1.c1
  have hd : d < w2.heap.size := h1.lt d (.inl rfl)
  obtain ⟨Ao, q, co, L, hq, hO, hq2, hvb⟩ := h1.oldRow s hs
  rw [old_tick] at L hq hO
  have b0 := below_alloc w2 (.cells #[.slice Ao q co, .int .i64 ((old S s).sf : Int)] 87)
  have BY := Lib.hid (((HB.out.below B1.out).keep h2 HFAR.out).below b0)
  have OO := Lib.hid (hO.below b0)
  have HK := Lib.hid (show ((old S s).bs ++ b).length = q + k by rw [List.length_append, hq, HL.out])
  have HE := Lib.hid (show wi (tick S).fs (appF S s b) = wi S.fs (appF S s b) by rw [HF.out])
  have AP := Lib.hid (fun A' c' w3 (g1 : Own w3 0 (.slice A' (q + k) c') ((old S s).bs ++ b)) g2 g3 => h1.appAt (w3 := w3) (appF S s b) hs Ao q co (old S s).bs hO hvb (.int .i64 ((old S s).sf : Int)) (.slice A' (q + k) c') (by show Own w3 0 _ ((old S s).bs ++ putOn S b); rw [HP.out]; exact g1) g2 g3 (by rw [HE.out]; exact HOK.out))
  have KK := Lib.hid ((Keep.of_below _ B1.out).tr h2)
  have e1 : (appF S s b).nm = s := rfl
  have e2 : (appF S s b).sf = (old S s).sf := rfl
  rw [HE.out, e1, e2] at AP
  clear h1 h2 CC hO hvb hq b0 e1 e2
  have RG := Lib.hid HRG.out.1
  generalize (old S s).sf = sf at *
  go_wp2_with (at_builtin; refine wp_appb _ rfl _ _ rfl 0 _ (old S s).bs rfl OO.out A k c (b) rfl HL.out BY.out HZ.out RG.out (q + k) HK.out (by omega) (Nat.zero_le _) ?_; intro A' c' w3 hO3 hg3 hw3; obtain ⟨⟨x0, x1, x2, x3⟩, w5, p1, p2, p3, p4⟩ := AP.out A' c' w3 hO3 hg3 hw3; have R := Lib.hid (And.intro p2 (And.intro p3 p4)); have HG := Lib.hid hg3.size; have hb3 : w2.heap.size < w3.heap.size := (by have := HG.out; simp at this; omega); clear p2 p3 p4 hO3 hg3 hw3)
  go_region
  all_goals
    go_wp2_with fail
    go_ret
    refine ⟨rfl, _, R.out.1, KK.out.trans R.out.2.1 (fun i _ hi => ?_), fun x hx => ?_⟩
    · rw [HF.out] at hi; exact hi
    · rcases R.out.2.2 x hx with e | e
      · rw [HF.out] at e; exact .inl e
      · have := KK.out.size
        exact .inr (by omega)
set_option maxHeartbeats 2000000 in
theorem append_cut {w : World} {d m : Nat} {V : ByteArray → Value} {S : St} (h : Dk w d m V S) (s : ByteArray) (hs : s.size ≤ maxLen) (A : Option Addr) (k c : Nat) (b : List Int) (hl : b.length = k) (hb : Byt w A b) (hz : A = none → c = 0) (hfar : ∀ x, A = some x → ¬ Fp d m V S.fs x.block) (hkc : k ≤ c) (hk : k ≤ 1000000) (hu : S.up = true) (hr : refuse S s k = 0) (hct : cutOff S = true) :
    Calls Tryz.prog 75 #[ptr d, .string s, .slice A k c] w (Acted w d m V S 9 (withFs (tick S) (wi S.fs (appF S s b)))) := by
  have C := Lib.hid (up_any h)
  rw [hu] at C
  have C1 := Lib.hid (refuses_any h s k hs)
  rw [hr] at C1
  have C2 := Lib.hid (fun W (hb : Below w.heap.size w W) => cuts_any (h.below hb))
  rw [hct] at C2
  have C6 := Lib.hid (fun W (hb : Below w.heap.size w W) => (h.below hb).c6)
  have HF := Lib.hid (tick_fs S)
  have HOK := Lib.hid (app_ok h.ok hb.2 (by rw [hl]; exact hr))
  have HRG := Lib.hid (old_ok h.ok s)
  obtain ⟨r, hre⟩ : ∃ r, S.part % (k + 1) = r := ⟨_, rfl⟩
  have hrk : r ≤ k := by have := Nat.mod_lt S.part (show 0 < k + 1 by omega); omega
  have hrm : (S.part : Int) % ((k : Int) + 1) = (r : Int) := by rw [← hre]; simp
  have HP := Lib.hid (show putOn S b = b.take r by unfold putOn; rw [hct, hl, hre]; rfl)
  have HL := Lib.hid (show (b.take r).length = r by rw [List.length_take]; omega)
  have HB := Lib.hid (hb.take r)
  have hk0 : (0 : Int) ≤ (r : Int) := by omega
  have hk1 : (r : Int) ≤ (c : Int) := by omega
  generalize S.part = part at *
  have HZ := Lib.hid hz
  have HFAR := Lib.hid hfar
  clear h hu hr hct hb hz hfar hl hre
  go_enter Tryz.func75, Tryz.ntmps75
  go_wp2_with fail
  refine C.out.mono ?_
  rintro e w1 ⟨rfl, rfl⟩
  clear C
  go_wp2_with fail
  refine C1.out.mono ?_
  rintro e w1 ⟨rfl, hb1⟩
  have c6 := C6.out w1 hb1
  have CC := Lib.hid (C2.out w1 hb1)
  have B1 := Lib.hid hb1
  clear C1 C2 C6 hb1
  go_wp2_with fail
  refine CC.out.mono ?_
  rintro e w2 ⟨rfl, h1, h2⟩
  have c1 := h1.c1
  have hd : d < w2.heap.size := h1.lt d (.inl rfl)
  obtain ⟨Ao, q, co, L, hq, hO, hq2, hvb⟩ := h1.oldRow s hs
  rw [old_tick] at L hq hO
  have b0 := below_alloc w2 (.cells #[.slice Ao q co, .int .i64 ((old S s).sf : Int)] 87)
  have BY := Lib.hid (((HB.out.below B1.out).keep h2 HFAR.out).below b0)
  have OO := Lib.hid (hO.below b0)
  have HK := Lib.hid (show ((old S s).bs ++ b.take r).length = q + r by rw [List.length_append, hq, HL.out])
  have HE := Lib.hid (show wi (tick S).fs (appF S s b) = wi S.fs (appF S s b) by rw [HF.out])
  have AP := Lib.hid (fun A' c' w3 (g1 : Own w3 0 (.slice A' (q + r) c') ((old S s).bs ++ b.take r)) g2 g3 => h1.appAt (w3 := w3) (appF S s b) hs Ao q co (old S s).bs hO hvb (.int .i64 ((old S s).sf : Int)) (.slice A' (q + r) c') (by show Own w3 0 _ ((old S s).bs ++ putOn S b); rw [HP.out]; exact g1) g2 g3 (by rw [HE.out]; exact HOK.out))
  have KK := Lib.hid ((Keep.of_below _ B1.out).tr h2)
  have e1 : (appF S s b).nm = s := rfl
  have e2 : (appF S s b).sf = (old S s).sf := rfl
  rw [HE.out, e1, e2] at AP
  clear h1 h2 CC hO hvb hq b0 e1 e2
  have RG := Lib.hid HRG.out.1
  generalize (old S s).sf = sf at *
  go_wp2_with (at_builtin; refine wp_appb _ rfl _ _ rfl 0 _ (old S s).bs rfl OO.out A r c (b.take r) rfl HL.out BY.out HZ.out RG.out (q + r) HK.out (by omega) (Nat.zero_le _) ?_; intro A' c' w3 hO3 hg3 hw3; obtain ⟨⟨x0, x1, x2, x3⟩, w5, p1, p2, p3, p4⟩ := AP.out A' c' w3 hO3 hg3 hw3; have R := Lib.hid (And.intro p2 (And.intro p3 p4)); have HG := Lib.hid hg3.size; have hb3 : w2.heap.size < w3.heap.size := (by have := HG.out; simp at this; omega); clear p2 p3 p4 hO3 hg3 hw3)
  go_region
  all_goals
    go_wp2_with fail
    go_ret
    refine ⟨rfl, _, R.out.1, KK.out.trans R.out.2.1 (fun i _ hi => ?_), fun x hx => ?_⟩
    · rw [HF.out] at hi; exact hi
    · rcases R.out.2.2 x hx with e | e
      · rw [HF.out] at e; exact .inl e
      · have := KK.out.size
        exact .inr (by omega)
theorem append_any {w : World} {d m : Nat} {V : ByteArray → Value} {S : St} (h : Dk w d m V S) (s : ByteArray) (hs : s.size ≤ maxLen) (A : Option Addr) (k c : Nat) (b : List Int) (hl : b.length = k) (hb : Byt w A b) (hz : A = none → c = 0) (hfar : ∀ x, A = some x → ¬ Fp d m V S.fs x.block) (hkc : k ≤ c) (hk : k ≤ 1000000) :
    Calls Tryz.prog 75 #[ptr d, .string s, .slice A k c] w (Acted w d m V S (appE S s b) (appS S s b)) := by
  unfold appE appS
  cases hu : S.up with
  | false => exact append_down h s _ hu
  | true =>
    simp only [if_true]
    rw [hl]
    by_cases hr : refuse S s k = 0
    · rw [if_pos hr]
      cases hct : cutOff S with
      | false =>
        simp only [Bool.false_eq_true, if_false]
        rw [hr]
        exact append_all h s hs A k c b hl hb hz hfar hkc hk hu hr hct
      | true => exact append_cut h s hs A k c b hl hb hz hfar hkc hk hu hr hct
    · rw [if_neg hr]
      exact append_no h s hs A k c hkc (by omega) hu hr _ rfl
end Go.Proofs.YtcodihgjfhoepaaGreatDoor
