/- A file put into the map, or taken out: the disk behind it. Sync, Delete, Rename. -/
import Derived.Test.YtcodihgjfhoepaaGreatDoorDkRead
namespace Go.Proofs.YtcodihgjfhoepaaGreatDoor
open Go Go.RowKit
set_option maxRecDepth 20000

section
variable {w W : World} {d m : Nat} {V : ByteArray → Value} {S : St}
theorem Dk.putAt (h : Dk w d m V S) (g : Fl) (v' : Value) (l' : List Fl) (hs : g.nm.size ≤ maxLen)
    (hk : Keep (fun x => (V g.nm).ownBlock = some x ∧ ∃ f ∈ S.fs, f.nm = g.nm) w W) (hO : Own W 0 v' g.bs)
    (ha : ∀ x, v'.ownBlock = some x → ∀ f ∈ S.fs, f.nm ≠ g.nm → (V f.nm).ownBlock ≠ some x)
    (hl : Ok (withFs S l')) (hn : (if (fnd S.fs g.nm).isSome then S.fs.length else S.fs.length + 1) = l'.length) (hf : ∀ k, fnd l' k = if k = g.nm then some g else fnd S.fs k) :
    ∃ w2, (Instr.mapUpdate 79 (.map (some m)) (.string g.nm) (.agg #[v', .int .i64 (g.sf : Int)])).run Tryz.prog W = .ok () w2 ∧
      Dk w2 d m (updV V g.nm v') (withFs S l') ∧ Keep (Fp d m V S.fs) w w2 ∧ ∀ x, Fp d m (updV V g.nm v') l' x → Fp d m V S.fs x ∨ v'.ownBlock = some x := by
  have hm : Mp W m S.fs.length (tell V S.fs) := h.mp.same (hk.block m h.mp.lt (fun ⟨e1, f, hf, e2⟩ => (h.off (h.row f hf) (by rw [e2]; exact e1)).2 rfl))
  obtain ⟨w2, h1, h2, h3⟩ := hm.put (.agg #[v', .int .i64 (g.sf : Int)]) hs (by have := h.ok.many; omega)
  refine ⟨w2, h1, h.put g v' l' _ (by rw [tell_is]; exact hn) hk h2 h3 hO ha hl hf, ?_, fun x hx => fp_put hl.rise hf hx⟩
  refine (hk.wide (F' := Fp d m V S.fs) (fun i _ ⟨e1, f, hf, e2⟩ => .inr (.inr ⟨f, hf, by rw [e2]; exact e1⟩))).tr (Keep.turned h3 (.inr (.inl rfl)))
theorem Dk.apart_of (h : Dk w d m V S) {s : ByteArray} {f : Fl} (hf : fnd S.fs s = some f) : ∀ x, (V s).ownBlock = some x → ∀ f' ∈ S.fs, f'.nm ≠ s → (V f'.nm).ownBlock ≠ some x := fun x hx f' hf' hne e => by
  obtain ⟨h1, rfl⟩ := fnd_mem hf
  exact hne (h.apart f' hf' f h1 x e hx)
theorem wi_hn {l : List Fl} (h : Rise l) (g : Fl) : (if (fnd l g.nm).isSome then l.length else l.length + 1) = (wi l g).length := by
  cases e : fnd l g.nm with
  | none => rw [(wi_none e).1]; rfl
  | some f => rw [(wi_some h e).1]; rfl
end
/- what an act answers, and the disk behind it -/
def Acted (w : World) (d m : Nat) (V : ByteArray → Value) (S : St) (n : Nat) (T : St) (e : Ending) (w' : World) : Prop :=
  e = .returned (.int .i64 (n : Int)) ∧ ∃ V', Dk w' d m V' T ∧ Keep (Fp d m V S.fs) w w' ∧ ∀ x, Fp d m V' T.fs x → Fp d m V S.fs x ∨ w.heap.size ≤ x
theorem Acted.same {w w' : World} {d m : Nat} {V : ByteArray → Value} {S T : St} {n : Nat} (h : Dk w' d m V T) (hk : Keep (Fp d m V S.fs) w w') (hf : T.fs = S.fs) : Acted w d m V S n T (.returned (.int .i64 (n : Int))) w' :=
  ⟨rfl, V, h, hk, fun x hx => .inl (hf ▸ hx)⟩
theorem goes_is {S : St} (h : goes S = true) : begun S = tick S ∧ S.up = true := by
  unfold goes at h
  simp only [Bool.and_eq_true] at h
  exact ⟨by unfold begun; rw [h.1]; rfl, h.1⟩
set_option maxHeartbeats 1000000 in
theorem sync_no {w : World} {d m : Nat} {V : ByteArray → Value} {S : St} (h : Dk w d m V S) (s : ByteArray) (hg : goes S = false) :
    Calls Tryz.prog 115 #[ptr d, .string s] w (Acted w d m V S 9 (begun S)) := by
  have C := Lib.hid (begin_any h)
  rw [hg] at C
  have HF := Lib.hid (begun_fs S)
  clear h hg
  go_enter Tryz.func115, Tryz.ntmps115
  go_wp2_with fail
  refine C.out.mono ?_
  rintro e w1 ⟨rfl, h1, h2⟩
  have H1 := Lib.hid h1
  have H2 := Lib.hid h2
  clear h1 h2 C
  go_wp2_with fail
  go_ret
  exact Acted.same H1.out H2.out HF.out
set_option maxHeartbeats 1000000 in
theorem sync_none {w : World} {d m : Nat} {V : ByteArray → Value} {S : St} (h : Dk w d m V S) (s : ByteArray) (hs : s.size ≤ maxLen) (hg : goes S = true) (hf : fnd S.fs s = none) :
    Calls Tryz.prog 115 #[ptr d, .string s] w (Acted w d m V S 8 (begun S)) := by
  have C := Lib.hid (begin_any h)
  rw [hg] at C
  have HF := Lib.hid (begun_fs S)
  have hf' : Hid (fnd (begun S).fs s = none) := by rw [begun_fs]; exact hf
  clear h hg hf
  go_enter Tryz.func115, Tryz.ntmps115
  go_wp2_with fail
  refine C.out.mono ?_
  rintro e w1 ⟨rfl, h1, h2⟩
  have c1 := h1.c1
  have L := h1.mp.look hs
  rw [tell_none hf'.out] at L
  simp only [Option.getD_none, Option.isSome_none, zf] at L
  have H1 := Lib.hid h1
  have H2 := Lib.hid h2
  clear h1 h2 C
  go_wp2_with fail
  go_ret
  exact Acted.same (H1.out.below (below_alloc _ _)) (H2.out.alloc _) HF.out
set_option maxHeartbeats 2000000 in
theorem sync_some {w : World} {d m : Nat} {V : ByteArray → Value} {S : St} (h : Dk w d m V S) (s : ByteArray) (hs : s.size ≤ maxLen) (hg : goes S = true) (f : Fl) (hf : fnd S.fs s = some f) :
    Calls Tryz.prog 115 #[ptr d, .string s] w (Acted w d m V S 0 (withFs (begun S) (wi S.fs (synF f)))) := by
  have C := Lib.hid (begin_any h)
  rw [hg] at C
  have HOK := Lib.hid (show Ok (withFs (begun S) (wi S.fs (synF f))) from h.ok.again (f := f) (syn_fnd hf) (Nat.le_refl _) (Nat.le_refl _) (fun _ hc => hc) h.ok.begun (begun_room S))
  have hf' : Hid (fnd (begun S).fs s = some f) := by rw [begun_fs]; exact hf
  have HF := Lib.hid (begun_fs S)
  obtain ⟨_, rfl⟩ := fnd_mem hf
  clear h hg hf
  go_enter Tryz.func115, Tryz.ntmps115
  go_wp2_with fail
  refine C.out.mono ?_
  rintro e w1 ⟨rfl, h1, h2⟩
  have c1 := h1.c1
  have hd : d < w1.heap.size := h1.lt d (.inl rfl)
  have L := h1.mp.look hs
  obtain ⟨A, c, eV, hO, hB, _, hl⟩ := h1.file hf'.out
  rw [tell_some hf'.out, eV] at L
  simp only [Option.getD_some, Option.isSome_some] at L
  have b0 := below_alloc w1 (.cells #[.slice A f.bs.length c, .int .i64 (f.bs.length : Int)] 87)
  have hr := h1.ok.rise
  rw [HF.out] at hr
  obtain ⟨w2, p1, p2, p3, p4⟩ := h1.putAt (W := (w1.alloc (.cells #[.slice A f.bs.length c, .int .i64 (f.bs.length : Int)] 87)).drew) (synF f) (V f.nm) (wi S.fs (synF f)) hs ((Keep.of_below _ b0).drew) (by
    show Own _ 0 (V f.nm) f.bs
    rw [eV]
    exact hO.below b0.drew) (h1.apart_of hf'.out) HOK.out (by rw [HF.out]; exact wi_hn hr (synF f)) (by rw [HF.out]; exact fnd_wi hr (synF f))
  rw [eV] at p1
  have R := Lib.hid (And.intro p2 (And.intro p3 (And.intro p4 (And.intro h2 eV))))
  have E1 := Lib.hid (show (synF f).sf = f.bs.length from rfl)
  simp only [synF] at p1
  have H1 := Lib.hid h1
  have PP := p1
  clear p1 h1 h2 p2 p3 p4 eV hO hB b0 hr C
  generalize f.bs.length = q at *
  generalize f.sf = sf at *
  go_wp2_with fail
  go_region
  all_goals
    go_wp2_with fail
    go_ret
    refine ⟨rfl, _, R.out.1, R.out.2.2.2.1.trans R.out.2.1 (fun i _ hi => ?_), fun x hx => ?_⟩
    · rw [HF.out] at hi; exact hi
    · rcases R.out.2.2.1 x hx with e | e
      · rw [HF.out] at e; exact .inl e
      · refine .inl (.inr (.inr ⟨f, ?_, e⟩))
        have := (fnd_mem hf'.out).1
        rw [HF.out] at this
        exact this
theorem sync_any {w : World} {d m : Nat} {V : ByteArray → Value} {S : St} (h : Dk w d m V S) (s : ByteArray) (hs : s.size ≤ maxLen) :
    Calls Tryz.prog 115 #[ptr d, .string s] w (Acted w d m V S (synE S s) (synS S s)) := by
  unfold synE synS
  cases hg : goes S with
  | false => exact sync_no h s hg
  | true =>
    cases hf : fnd S.fs s with
    | none => exact sync_none h s hs hg hf
    | some f => exact sync_some h s hs hg f hf
theorem sync_nil (s : ByteArray) (w : World) : Calls Tryz.prog 115 #[.pointer none, .string s] w fun e w' => e = .returned (.int .i64 9) ∧ w = w' := by
  have C := Lib.hid (begin_nil w)
  go_enter Tryz.func115, Tryz.ntmps115
  go_wp2_with fail
  refine C.out.mono ?_
  rintro e w1 ⟨rfl, rfl⟩
  go_wp2_with fail
  go_ret
  exact ⟨rfl, rfl⟩
end Go.Proofs.YtcodihgjfhoepaaGreatDoor
