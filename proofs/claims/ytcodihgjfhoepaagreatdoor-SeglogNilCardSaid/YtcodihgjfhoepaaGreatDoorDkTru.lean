/- Truncate. -/
import Derived.Test.YtcodihgjfhoepaaGreatDoorDkDel
namespace Go.Proofs.YtcodihgjfhoepaaGreatDoor
open Go Go.RowKit
set_option maxRecDepth 20000

/- a file's bytes are other ones, in new memory: the map's store -/
theorem Dk.newRow {w W W2 : World} {d m : Nat} {V : ByteArray → Value} {S : St} (h : Dk w d m V S) (g : Fl) (A : Option Addr) (k c : Nat) (l' : List Fl) (box : Nat) (x0 x1 : Value) (hs : g.nm.size ≤ maxLen)
    (hb : Below w.heap.size w W) (hO : Own W2 W.heap.size (.slice A k c) g.bs) (hb2 : Below W.heap.size W W2) (hbox : w.heap.size ≤ box) (hx0 : W.cell? ⟨box, 0, none⟩ = some x0) (hx1 : W.cell? ⟨box, 1, none⟩ = some x1)
    (hl : Ok (withFs S l')) (hn : (if (fnd S.fs g.nm).isSome then S.fs.length else S.fs.length + 1) = l'.length) (hf : ∀ k, fnd l' k = if k = g.nm then some g else fnd S.fs k) :
    ∃ w3, (Instr.mapUpdate 79 (.map (some m)) (.string g.nm) (.agg #[.slice A k c, .int .i64 (g.sf : Int)])).run Tryz.prog W2 = .ok () w3 ∧
      (W2.cell? ⟨d, 1, none⟩ = some (.map (some m)) ∧ W2.cell? ⟨box, 0, none⟩ = some x0 ∧ W2.cell? ⟨box, 1, none⟩ = some x1) ∧ (w3.cell? ⟨d, 1, none⟩ = some (.map (some m)) ∧ w3.cell? ⟨box, 0, none⟩ = some x0 ∧ w3.cell? ⟨box, 1, none⟩ = some x1) ∧
      (Dk w3 d m (updV V g.nm (.slice A k c)) (withFs S l') ∧ Keep (Fp d m V S.fs) w w3 ∧ ∀ x, Fp d m (updV V g.nm (.slice A k c)) l' x → Fp d m V S.fs x ∨ w.heap.size ≤ x) := by
  have hbb := below_go hb hb2
  have y0 : W2.cell? ⟨box, 0, none⟩ = some x0 := (hb2.cell (World.block_lt_of_cell? _ _ hx0)).trans hx0
  have y1 : W2.cell? ⟨box, 1, none⟩ = some x1 := (hb2.cell (World.block_lt_of_cell? _ _ hx1)).trans hx1
  obtain ⟨w3, p1, p2, p3, p4⟩ := h.putAt (W := W2) g (.slice A k c) l' hs (Keep.of_below _ hbb) hO.zero (fun x hx f hf' _ e => by
    have := (hO.lt x hx).1
    have := ((h.row f hf').lt x e).2
    have := hb.size
    omega) hl hn hf
  obtain ⟨es, clock, hm1⟩ := (h.below hbb).mp.is
  have tm : W2.mapTurned w3 m := by
    have hm : Mp W2 m S.fs.length (tell V S.fs) := (h.below hbb).mp
    obtain ⟨w3', q1, _, q3⟩ := hm.put (.agg #[.slice A k c, .int .i64 (g.sf : Int)]) hs (by have := h.ok.many; omega)
    rw [p1] at q1
    injection q1 with _ q1
    exact q1 ▸ q3
  have K : Keep (fun x => x = m) W2 w3 := Keep.turned tm rfl
  have hne : ¬ box = m := fun e => by have := h.mp.lt; omega
  refine ⟨w3, p1, ⟨(h.below hbb).c1, y0, y1⟩, ⟨p2.c1, K.cell y0 hne, K.cell y1 hne⟩, p2, p3, fun x hx => ?_⟩
  rcases p4 x hx with e | e
  · exact .inl e
  · have := (hO.lt x e).1
    have := hb.size
    exact .inr (by omega)
theorem truncate_nil (s : ByteArray) (n : Int) (w : World) : Calls Tryz.prog 108 #[.pointer none, .string s, .int .i64 n] w fun e w' => e = .returned (.int .i64 9) ∧ w = w' := by
  have C := Lib.hid (begin_nil w)
  go_enter Tryz.func108, Tryz.ntmps108
  go_wp2_with fail
  refine C.out.mono ?_
  rintro e w1 ⟨rfl, rfl⟩
  go_wp2_with fail
  go_ret
  exact ⟨rfl, rfl⟩
set_option maxHeartbeats 1000000 in
theorem truncate_no {w : World} {d m : Nat} {V : ByteArray → Value} {S : St} (h : Dk w d m V S) (s : ByteArray) (n : Int) (hg : goes S = false) :
    Calls Tryz.prog 108 #[ptr d, .string s, .int .i64 n] w (Acted w d m V S 9 (begun S)) := by
  have C := Lib.hid (begin_any h)
  rw [hg] at C
  have HF := Lib.hid (begun_fs S)
  clear h hg
  go_enter Tryz.func108, Tryz.ntmps108
  go_wp2_with fail
  refine C.out.mono ?_
  rintro e w1 ⟨rfl, h1, h2⟩
  have H1 := Lib.hid h1
  have H2 := Lib.hid h2
  clear h1 h2 C
  go_wp2_with fail
  go_ret
  exact Acted.same H1.out H2.out HF.out
set_option maxHeartbeats 1000000 in
theorem truncate_none {w : World} {d m : Nat} {V : ByteArray → Value} {S : St} (h : Dk w d m V S) (s : ByteArray) (n : Int) (hs : s.size ≤ maxLen) (hg : goes S = true) (hf : fnd S.fs s = none) :
    Calls Tryz.prog 108 #[ptr d, .string s, .int .i64 n] w (Acted w d m V S 8 (begun S)) := by
  have C := Lib.hid (begin_any h)
  rw [hg] at C
  have HF := Lib.hid (begun_fs S)
  have hf' : Hid (fnd (begun S).fs s = none) := by rw [begun_fs]; exact hf
  clear h hg hf
  go_enter Tryz.func108, Tryz.ntmps108
  go_wp2_with fail
  refine C.out.mono ?_
  rintro e w1 ⟨rfl, h1, h2⟩
  have c1 := h1.c1
  have L := h1.mp.look hs
  rw [tell_none hf'.out] at L
  simp only [Option.getD_none, Option.isSome_none, zf] at L
  have H1 := Lib.hid h1
  have H2 := Lib.hid h2
  clear h1 h2 C
  go_wp2_with fail
  go_ret
  exact Acted.same (H1.out.below (below_alloc _ _)) (H2.out.alloc _) HF.out
set_option maxHeartbeats 1000000 in
theorem truncate_bad {w : World} {d m : Nat} {V : ByteArray → Value} {S : St} (h : Dk w d m V S) (s : ByteArray) (n : Int) (hs : s.size ≤ maxLen) (hg : goes S = true) (f : Fl) (hf : fnd S.fs s = some f) (hn : n < 0 ∨ (f.bs.length : Int) < n) :
    Calls Tryz.prog 108 #[ptr d, .string s, .int .i64 n] w (Acted w d m V S 1 (begun S)) := by
  have C := Lib.hid (begin_any h)
  rw [hg] at C
  have HF := Lib.hid (begun_fs S)
  have hf' : Hid (fnd (begun S).fs s = some f) := by rw [begun_fs]; exact hf
  clear h hg hf
  rcases hn with hn | hn
  all_goals
    go_enter Tryz.func108, Tryz.ntmps108
    go_wp2_with fail
    refine C.out.mono ?_
    rintro e w1 ⟨rfl, h1, h2⟩
    have c1 := h1.c1
    have L := h1.mp.look hs
    obtain ⟨A, c, eV, _, _, _, hl⟩ := h1.file hf'.out
    rw [tell_some hf'.out, eV] at L
    simp only [Option.getD_some, Option.isSome_some] at L
    have H1 := Lib.hid h1
    have H2 := Lib.hid h2
    clear h1 h2 C eV
    generalize f.bs.length = q at *
    generalize f.sf = sf at *
    have hn0 : (0 : Int) ≤ (q : Int) := by omega
  · go_wp2_with fail
    go_ret
    exact Acted.same (H1.out.below (below_alloc _ _)) (H2.out.alloc _) HF.out
  · have hn1 : ¬ n < 0 := by omega
    go_wp2_with fail
    go_ret
    exact Acted.same (H1.out.below (below_alloc _ _)) (H2.out.alloc _) HF.out
set_option maxHeartbeats 2000000 in
theorem truncate_some {w : World} {d m : Nat} {V : ByteArray → Value} {S : St} (h : Dk w d m V S) (s : ByteArray) (n : Nat) (hs : s.size ≤ maxLen) (hg : goes S = true) (f : Fl) (hf : fnd S.fs s = some f) (hn : n ≤ f.bs.length) :
    Calls Tryz.prog 108 #[ptr d, .string s, .int .i64 (n : Int)] w (Acted w d m V S 0 (withFs (begun S) (wi S.fs (truF f n)))) := by
  have C := Lib.hid (begin_any h)
  rw [hg] at C
  have HOK := Lib.hid (show Ok (withFs (begun S) (wi S.fs (truF f n))) from h.ok.again (f := f) (tru_fnd hf n) (by show (f.bs.take n).length ≤ _; rw [List.length_take]; omega) (by show min f.sf n ≤ (f.bs.take n).length; rw [List.length_take]; have := (h.ok.file f (fnd_mem hf).1).safe; omega) (fun c hc => List.mem_of_mem_take hc) h.ok.begun (begun_room S))
  have hf' : Hid (fnd (begun S).fs s = some f) := by rw [begun_fs]; exact hf
  have HF := Lib.hid (begun_fs S)
  obtain ⟨_, rfl⟩ := fnd_mem hf
  clear h hg hf
  go_enter Tryz.func108, Tryz.ntmps108
  go_wp2_with fail
  refine C.out.mono ?_
  rintro e w1 ⟨rfl, h1, h2⟩
  have c1 := h1.c1
  have hd : d < w1.heap.size := h1.lt d (.inl rfl)
  have L := h1.mp.look hs
  obtain ⟨A, c, eV, hO, hB, _, hl⟩ := h1.file hf'.out
  rw [tell_some hf'.out, eV] at L
  simp only [Option.getD_some, Option.isSome_some] at L
  have b0 : Below w1.heap.size w1 (w1.alloc (.cells #[.slice A f.bs.length c, .int .i64 (f.sf : Int)] 87)).drew := (below_alloc w1 _).drew
  have hr := h1.ok.rise
  rw [HF.out] at hr
  have hle := hO.le rfl
  have C2 := Lib.hid (front_any _ A f.bs.length c n f.bs rfl (hB.below b0) hle hO.capz hn (by omega))
  have HA := Lib.hid (fun A' c' W2 (hO' : Own W2 (w1.alloc (.cells #[.slice A f.bs.length c, .int .i64 (f.sf : Int)] 87)).drew.heap.size (.slice A' n c') (f.bs.take n)) (hb2 : Below (w1.alloc (.cells #[.slice A f.bs.length c, .int .i64 (f.sf : Int)] 87)).drew.heap.size (w1.alloc (.cells #[.slice A f.bs.length c, .int .i64 (f.sf : Int)] 87)).drew W2) =>
    h1.newRow (truF f n) A' n c' (wi S.fs (truF f n)) w1.heap.size (.slice A f.bs.length c) (.int .i64 (f.sf : Int)) hs b0 hO' hb2 (Nat.le_refl _) (by simp [go_sem]) (by simp [go_sem]) HOK.out (by rw [HF.out]; exact wi_hn hr (truF f n)) (by rw [HF.out]; exact fnd_wi hr (truF f n)))
  simp only [truF] at HA
  have H2 := Lib.hid h2
  clear h1 h2 hB b0 hr C eV hO
  generalize f.bs.length = q at *
  have hn0 : (0 : Int) ≤ (n : Int) := by omega
  have hn1 : ¬ (n : Int) < 0 := by omega
  have hn2 : (n : Int) ≤ (q : Int) := by omega
  have hn3 : ¬ (q : Int) < (n : Int) := by omega
  have hmin : min (f.sf : Int) (n : Int) = ((min f.sf n : Nat) : Int) := by omega
  go_wp2_with fail
  go_region_held3 (fun W => W.cell? ⟨d, 1, none⟩ = some (.map (some m)) ∧ W.cell? ⟨w1.heap.size, 0, none⟩ = some (.slice A q c) ∧ W.cell? ⟨w1.heap.size, 1, none⟩ = some (.int .i64 (f.sf : Int)))
    (first | assumption | exact ⟨by simp [go_sem, *], by simp [go_sem], by simp [go_sem]⟩)
    (first | (go_at_call 39; (with_reducible refine Calls.mono C2.out ?_); rintro e w' ⟨A', c', rfl, hO', hb'⟩; obtain ⟨w3, p1, p2, p3, p4⟩ := HA.out A' c' w' hO' hb'; have P4 := Lib.hid p4; clear p4 hO' hb'))
  all_goals
    clear p1 p2 p3 HA C2
    go_wp2_with fail
    go_ret
    refine ⟨rfl, _, P4.out.1, H2.out.trans P4.out.2.1 (fun i _ hi => ?_), fun x hx => ?_⟩
    · rw [HF.out] at hi; exact hi
    · rcases P4.out.2.2 x hx with e | e
      · rw [HF.out] at e; exact .inl e
      · have := H2.out.size
        exact .inr (by omega)
theorem truncate_any {w : World} {d m : Nat} {V : ByteArray → Value} {S : St} (h : Dk w d m V S) (s : ByteArray) (n : Int) (hs : s.size ≤ maxLen) :
    Calls Tryz.prog 108 #[ptr d, .string s, .int .i64 n] w (Acted w d m V S (truE S s n) (truS S s n)) := by
  unfold truE truS
  cases hg : goes S with
  | false => exact truncate_no h s n hg
  | true =>
    cases hf : fnd S.fs s with
    | none => exact truncate_none h s n hs hg hf
    | some f =>
      by_cases c : fits n f = true
      · simp only [if_true, c]
        unfold fits at c
        simp only [Bool.and_eq_true, decide_eq_true_eq] at c
        have := truncate_some h s n.toNat hs hg f hf (by omega)
        rw [show ((n.toNat : Nat) : Int) = n by omega] at this
        exact this
      · simp only [if_true, c]
        unfold fits at c
        simp only [Bool.and_eq_true, decide_eq_true_eq] at c
        exact truncate_bad h s n hs hg f hf (by omega)
end Go.Proofs.YtcodihgjfhoepaaGreatDoor
