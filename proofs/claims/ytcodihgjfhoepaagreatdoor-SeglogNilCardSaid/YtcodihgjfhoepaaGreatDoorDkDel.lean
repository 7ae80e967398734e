/- Delete, Rename. -/
import Derived.Test.YtcodihgjfhoepaaGreatDoorDkPut
namespace Go.Proofs.YtcodihgjfhoepaaGreatDoor
open Go Go.RowKit
set_option maxRecDepth 20000

theorem Dk.dropAt {w W : World} {d m : Nat} {V : ByteArray → Value} {S : St} (h : Dk w d m V S) (s : ByteArray) (f : Fl) (hf : fnd S.fs s = some f) (hs : s.size ≤ maxLen) (hb : Below w.heap.size w W) :
    ∃ w2, (∀ ty, (Builtin.delete_ #[79, 9] ty #[.map (some m), .string s]).run Tryz.prog W = .ok (.tuple #[]) w2) ∧ Dk w2 d m V (withFs S (wo S.fs s)) ∧ Keep (fun x => x = m) W w2 ∧ Keep (Fp d m V S.fs) w w2 := by
  have h' := h.below hb
  obtain ⟨w2, h1, h2, h3⟩ := h'.mp.del hs (by rw [tell_is, hf]; rfl) 0
  have hl : S.fs.length - 1 = (wo S.fs s).length := by
    have h4 := fnd_mem hf
    have := wo_some h.ok.rise h4.1
    rw [h4.2] at this
    omega
  exact ⟨w2, fun ty => h1, h'.drop s _ hl h2 h3, Keep.turned h3 rfl, (Keep.of_below _ hb).tr (Keep.turned h3 (.inr (.inl rfl)))⟩
set_option maxHeartbeats 1000000 in
theorem delete_no {w : World} {d m : Nat} {V : ByteArray → Value} {S : St} (h : Dk w d m V S) (s : ByteArray) (hg : goes S = false) :
    Calls Tryz.prog 71 #[ptr d, .string s] w (Acted w d m V S 9 (begun S)) := by
  have C := Lib.hid (begin_any h)
  rw [hg] at C
  have HF := Lib.hid (begun_fs S)
  clear h hg
  go_enter Tryz.func71, Tryz.ntmps71
  go_wp2_with fail
  refine C.out.mono ?_
  rintro e w1 ⟨rfl, h1, h2⟩
  have H1 := Lib.hid h1
  have H2 := Lib.hid h2
  clear h1 h2 C
  go_wp2_with fail
  go_ret
  exact Acted.same H1.out H2.out HF.out
set_option maxHeartbeats 1000000 in
theorem delete_none {w : World} {d m : Nat} {V : ByteArray → Value} {S : St} (h : Dk w d m V S) (s : ByteArray) (hs : s.size ≤ maxLen) (hg : goes S = true) (hf : fnd S.fs s = none) :
    Calls Tryz.prog 71 #[ptr d, .string s] w (Acted w d m V S 8 (begun S)) := by
  have C := Lib.hid (begin_any h)
  rw [hg] at C
  have HF := Lib.hid (begun_fs S)
  have hf' : Hid (fnd (begun S).fs s = none) := by rw [begun_fs]; exact hf
  clear h hg hf
  go_enter Tryz.func71, Tryz.ntmps71
  go_wp2_with fail
  refine C.out.mono ?_
  rintro e w1 ⟨rfl, h1, h2⟩
  have c1 := h1.c1
  have L := h1.mp.look hs
  rw [tell_none hf'.out] at L
  simp only [Option.getD_none, Option.isSome_none, zf] at L
  have H1 := Lib.hid h1
  have H2 := Lib.hid h2
  clear h1 h2 C
  go_wp2_with fail
  go_ret
  exact Acted.same (H1.out.below (below_alloc _ _)) (H2.out.alloc _) HF.out
set_option maxHeartbeats 2000000 in
theorem delete_some {w : World} {d m : Nat} {V : ByteArray → Value} {S : St} (h : Dk w d m V S) (s : ByteArray) (hs : s.size ≤ maxLen) (hg : goes S = true) (f : Fl) (hf : fnd S.fs s = some f) :
    Calls Tryz.prog 71 #[ptr d, .string s] w (Acted w d m V S 0 (withFs (begun S) (wo S.fs s))) := by
  have C := Lib.hid (begin_any h)
  rw [hg] at C
  have hf' : Hid (fnd (begun S).fs s = some f) := by rw [begun_fs]; exact hf
  have HF := Lib.hid (begun_fs S)
  clear h hg hf
  go_enter Tryz.func71, Tryz.ntmps71
  go_wp2_with fail
  refine C.out.mono ?_
  rintro e w1 ⟨rfl, h1, h2⟩
  have c1 := h1.c1
  have hd : d < w1.heap.size := h1.lt d (.inl rfl)
  have L := h1.mp.look hs
  obtain ⟨A, c, eV, hO, hB, _, hl⟩ := h1.file hf'.out
  rw [tell_some hf'.out, eV] at L
  simp only [Option.getD_some, Option.isSome_some] at L
  have b0 := below_alloc w1 (.cells #[.slice A f.bs.length c, .int .i64 (f.sf : Int)] 87)
  obtain ⟨w2, p1, p2, p3, p4⟩ := h1.dropAt s f hf'.out hs b0
  have R := Lib.hid (And.intro p2 (And.intro p4 h2))
  clear h1 h2 p2 p3 p4 eV hO hB b0 C
  generalize f.bs.length = q at *
  generalize f.sf = sf at *
  go_wp2_with fail
  go_ret
  refine ⟨rfl, V, ?_, R.out.2.2.trans R.out.2.1 (fun i _ hi => ?_), fun x hx => .inl (fp_wo hx)⟩
  · have := R.out.1
    rw [HF.out] at this
    exact this
  · rw [HF.out] at hi; exact hi
theorem delete_any {w : World} {d m : Nat} {V : ByteArray → Value} {S : St} (h : Dk w d m V S) (s : ByteArray) (hs : s.size ≤ maxLen) :
    Calls Tryz.prog 71 #[ptr d, .string s] w (Acted w d m V S (delE S s) (delS S s)) := by
  unfold delE delS
  cases hg : goes S with
  | false => exact delete_no h s hg
  | true =>
    cases hf : fnd S.fs s with
    | none => exact delete_none h s hs hg hf
    | some f => exact delete_some h s hs hg f hf
theorem delete_nil (s : ByteArray) (w : World) : Calls Tryz.prog 71 #[.pointer none, .string s] w fun e w' => e = .returned (.int .i64 9) ∧ w = w' := by
  have C := Lib.hid (begin_nil w)
  go_enter Tryz.func71, Tryz.ntmps71
  go_wp2_with fail
  refine C.out.mono ?_
  rintro e w1 ⟨rfl, rfl⟩
  go_wp2_with fail
  go_ret
  exact ⟨rfl, rfl⟩
theorem rename_nil (s t : ByteArray) (w : World) : Calls Tryz.prog 100 #[.pointer none, .string s, .string t] w fun e w' => e = .returned (.int .i64 9) ∧ w = w' := by
  have C := Lib.hid (begin_nil w)
  go_enter Tryz.func100, Tryz.ntmps100
  go_wp2_with fail
  refine C.out.mono ?_
  rintro e w1 ⟨rfl, rfl⟩
  go_wp2_with fail
  go_ret
  exact ⟨rfl, rfl⟩
set_option maxHeartbeats 1000000 in
theorem rename_no {w : World} {d m : Nat} {V : ByteArray → Value} {S : St} (h : Dk w d m V S) (s t : ByteArray) (hg : goes S = false) :
    Calls Tryz.prog 100 #[ptr d, .string s, .string t] w (Acted w d m V S 9 (begun S)) := by
  have C := Lib.hid (begin_any h)
  rw [hg] at C
  have HF := Lib.hid (begun_fs S)
  clear h hg
  go_enter Tryz.func100, Tryz.ntmps100
  go_wp2_with fail
  refine C.out.mono ?_
  rintro e w1 ⟨rfl, h1, h2⟩
  have H1 := Lib.hid h1
  have H2 := Lib.hid h2
  clear h1 h2 C
  go_wp2_with fail
  go_ret
  exact Acted.same H1.out H2.out HF.out
set_option maxHeartbeats 1000000 in
theorem rename_bad {w : World} {d m : Nat} {V : ByteArray → Value} {S : St} (h : Dk w d m V S) (s t : ByteArray) (ht : t.size ≤ maxLen) (hg : goes S = true) (hn : named t = false) :
    Calls Tryz.prog 100 #[ptr d, .string s, .string t] w (Acted w d m V S 1 (begun S)) := by
  have C := Lib.hid (begin_any h)
  rw [hg] at C
  have HF := Lib.hid (begun_fs S)
  have CN := Lib.hid (fun W => named_any t W ht)
  rw [hn] at CN
  clear h hg
  go_enter Tryz.func100, Tryz.ntmps100
  go_wp2_with fail
  refine C.out.mono ?_
  rintro e w1 ⟨rfl, h1, h2⟩
  have H1 := Lib.hid h1
  have H2 := Lib.hid h2
  clear h1 h2 C
  go_wp2_with fail
  refine (CN.out _).mono ?_
  rintro e w2 ⟨rfl, rfl⟩
  clear CN
  go_wp2_with fail
  go_ret
  exact Acted.same H1.out H2.out HF.out
set_option maxHeartbeats 1000000 in
theorem rename_none {w : World} {d m : Nat} {V : ByteArray → Value} {S : St} (h : Dk w d m V S) (s t : ByteArray) (hs : s.size ≤ maxLen) (ht : t.size ≤ maxLen) (hg : goes S = true) (hn : named t = true) (hf : fnd S.fs s = none) :
    Calls Tryz.prog 100 #[ptr d, .string s, .string t] w (Acted w d m V S 8 (begun S)) := by
  have C := Lib.hid (begin_any h)
  rw [hg] at C
  have HF := Lib.hid (begun_fs S)
  have CN := Lib.hid (fun W => named_any t W ht)
  rw [hn] at CN
  have hf' : Hid (fnd (begun S).fs s = none) := by rw [begun_fs]; exact hf
  clear h hg hf
  go_enter Tryz.func100, Tryz.ntmps100
  go_wp2_with fail
  refine C.out.mono ?_
  rintro e w1 ⟨rfl, h1, h2⟩
  have c1 := h1.c1
  have L := h1.mp.look hs
  rw [tell_none hf'.out] at L
  simp only [Option.getD_none, Option.isSome_none, zf] at L
  have H1 := Lib.hid h1
  have H2 := Lib.hid h2
  clear h1 h2 C
  go_wp2_with fail
  refine (CN.out _).mono ?_
  rintro e w2 ⟨rfl, rfl⟩
  clear CN
  go_wp2_with fail
  go_ret
  exact Acted.same (H1.out.below (below_alloc _ _)) (H2.out.alloc _) HF.out
theorem ren_ok {S : St} (h : Ok S) {s t : ByteArray} {f : Fl} (hn : named t = true) (hf : fnd S.fs s = some f) (hg : goes S = true) : Ok (withFs (begun S) (wi (wo S.fs s) ⟨t, f.bs, f.sf⟩)) := by
  have := h.ren s t
  unfold renS at this
  rw [hg, hn, hf] at this
  exact this
set_option maxHeartbeats 2000000 in
theorem rename_some {w : World} {d m : Nat} {V : ByteArray → Value} {S : St} (h : Dk w d m V S) (s t : ByteArray) (hs : s.size ≤ maxLen) (ht : t.size ≤ maxLen) (hg : goes S = true) (hn : named t = true) (f : Fl) (hf : fnd S.fs s = some f) :
    Calls Tryz.prog 100 #[ptr d, .string s, .string t] w (Acted w d m V S 0 (withFs (begun S) (wi (wo S.fs s) ⟨t, f.bs, f.sf⟩))) := by
  have C := Lib.hid (begin_any h)
  have HOK := Lib.hid (ren_ok h.ok hn hf hg)
  rw [hg] at C
  have CN := Lib.hid (fun W => named_any t W ht)
  rw [hn] at CN
  have hf' : Hid (fnd (begun S).fs s = some f) := by rw [begun_fs]; exact hf
  have HF := Lib.hid (begun_fs S)
  have hfm := Lib.hid (fnd_mem hf)
  clear h hg hf
  go_enter Tryz.func100, Tryz.ntmps100
  go_wp2_with fail
  refine C.out.mono ?_
  rintro e w1 ⟨rfl, h1, h2⟩
  have c1 := h1.c1
  have hd : d < w1.heap.size := h1.lt d (.inl rfl)
  have L := h1.mp.look hs
  obtain ⟨A, c, eV, hO, hB, _, hl⟩ := h1.file hf'.out
  rw [tell_some hf'.out, eV] at L
  simp only [Option.getD_some, Option.isSome_some] at L
  have b0 := below_alloc w1 (.cells #[.slice A f.bs.length c, .int .i64 (f.sf : Int)] 87)
  obtain ⟨w2, p1, p2, p3, p4⟩ := h1.dropAt s f hf'.out hs b0
  rw [HF.out] at p2
  have hr : Rise (wo S.fs s) := p2.ok.rise
  have hO2 : Own w2 0 (V s) f.bs := by
    rw [eV]
    refine ((hO.below b0)).same (fun k hk => p3.block k ((hO.below b0).lt k hk).2 (fun e => ?_))
    exact ((h1.below b0).off (hO.below b0) hk).2 e
  obtain ⟨w3, q1, q2, q3, q4⟩ := p2.putAt (W := w2.drew) ⟨t, f.bs, f.sf⟩ (V s) (wi (wo S.fs s) ⟨t, f.bs, f.sf⟩) ht ((Keep.refl _ _).drew) hO2 (fun x hx f' hf2 _ e => by
    obtain ⟨m1, m2⟩ := mem_wo.1 hf2
    exact h1.apart_of hf'.out x hx f' (by rw [HF.out]; exact m1) m2 e) HOK.out (wi_hn hr _) (fnd_wi hr _)
  simp only at q1
  rw [eV] at q1
  have y1 : w2.cell? ⟨w1.heap.size, 0, none⟩ = some (.slice A f.bs.length c) := p3.cell (by simp [go_sem]) (fun e => by have := h1.mp.lt; simp only at e; omega)
  have y2 : w2.cell? ⟨w1.heap.size, 1, none⟩ = some (.int .i64 (f.sf : Int)) := p3.cell (by simp [go_sem]) (fun e => by have := h1.mp.lt; simp only at e; omega)
  have y3 := p2.c1
  have K4 : Keep (Fp d m V S.fs) w w3 := (h2.trans p4 (fun i _ hi => by rw [HF.out] at hi; exact hi)).trans q3 (fun i _ hi => fp_wo hi)
  have R := Lib.hid (And.intro q2 (And.intro K4 q4))
  clear h1 h2 p2 p3 p4 q2 q3 q4 eV hO hB b0 hr hO2 K4 C
  generalize f.bs.length = q at *
  generalize f.sf = sf at *
  go_wp2_with fail
  refine (CN.out _).mono ?_
  rintro e w4 ⟨rfl, rfl⟩
  clear CN
  go_wp2_with fail
  go_region
  all_goals
    go_wp2_with fail
    go_ret
    refine ⟨rfl, _, R.out.1, R.out.2.1, fun x hx => ?_⟩
    rcases R.out.2.2 x hx with e | e
    · exact .inl (fp_wo e)
    · exact .inl (.inr (.inr ⟨f, hfm.out.1, by rw [hfm.out.2]; exact e⟩))
theorem rename_any {w : World} {d m : Nat} {V : ByteArray → Value} {S : St} (h : Dk w d m V S) (s t : ByteArray) (hs : s.size ≤ maxLen) (ht : t.size ≤ maxLen) :
    Calls Tryz.prog 100 #[ptr d, .string s, .string t] w (Acted w d m V S (renE S s t) (renS S s t)) := by
  unfold renE renS
  cases hg : goes S with
  | false => exact rename_no h s t hg
  | true =>
    cases hn : named t with
    | false => exact rename_bad h s t ht hg hn
    | true =>
      cases hf : fnd S.fs s with
      | none => exact rename_none h s t hs ht hg hn hf
      | some f => exact rename_some h s t hs ht hg hn f hf
end Go.Proofs.YtcodihgjfhoepaaGreatDoor
