/- Contracts, joined: SgV, SgZ, SgZn. -/
import Derived.Test.YtcodihgjfhoepaaGreatDoorSgRS
import Derived.Lib.SmallJoins
/- The chapter's example, told by lists. -/
namespace Go.Proofs.YtcodihgjfhoepaaGreatDoor
open Go Go.RowKit Crc Pk
set_option maxRecDepth 20000

def nmE : ByteArray := ⟨#[97]⟩
def a0 : ByteArray := ⟨#[97, 46, 48]⟩
def aM : ByteArray := ⟨#[97, 46, 109]⟩
def aT : ByteArray := ⟨#[97, 46, 116]⟩
theorem dc0 : dc 0 = ⟨#[48]⟩ := by unfold dc; rw [Lib.decDigits, dif_pos (by omega)]; rfl
theorem a0_is : fS nmE 0 = a0 := by
  show fn nmE (dc 0) = _
  rw [dc0]; rfl
theorem man0 : man [0] = [1, 0] := by
  unfold man
  rw [show ([0] : List Nat).length = 1 from rfl, List.flatMap_cons, List.flatMap_nil, wrt_lo 1 (by omega), wrt_lo 0 (by omega)]
  rfl
def e0 : St := St0 1000
def e1 : St := ⟨1000, [⟨aM, fr [1, 0], 10⟩], true, 0, false, 0, 0⟩
def e2 : St := ⟨1000, [⟨a0, [] ++ fr [97], 0⟩, ⟨aM, fr [1, 0], 10⟩], true, 0, false, 0, 0⟩
def e3 : St := ⟨1000, [⟨a0, ([] ++ fr [97]) ++ fr [98], 0⟩, ⟨aM, fr [1, 0], 10⟩], true, 0, false, 0, 0⟩
def e4 : St := ⟨1000, [⟨a0, ([] ++ fr [97]) ++ fr [98], 18⟩, ⟨aM, fr [1, 0], 10⟩], true, 0, false, 0, 0⟩
def e5 : St := ⟨1000, [⟨a0, (([] ++ fr [97]) ++ fr [98]) ++ fr [99], 18⟩, ⟨aM, fr [1, 0], 10⟩], true, 0, false, 0, 0⟩
def e6 : St := ⟨1000, [⟨a0, ((([] ++ fr [97]) ++ fr [98]) ++ fr [99]).take 18, 18⟩, ⟨aM, (fr [1, 0]).take 10, 10⟩], true, wrap64 (0 + 1), false, 0, 0⟩
theorem x_drp : drp e0 (fT nmE) = 0 := by rfl
theorem x_del : delS e0 (fT nmE) = e0 := by rfl
theorem x_tel : tel nmE [0] e0 = (0, e1) := by
  unfold tel
  rw [man0]
  rfl
theorem x_stray (l : List Nat) : stray nmE l aM = false := by
  unfold stray
  rw [show isof (tailOf nmE aM) 48 57 = false from rfl, Bool.and_false]
theorem x_open : opR nmE [0] 0 e0 0 e1 = ⟨0, ⟨[0], [], 0, 0, false⟩, e1⟩ := by
  have h1 : sty nmE [0] (e1.fs.map Fl.nm) e1 = (0, e1) := by
    show (if stray nmE [0] aM then _ else _) = _
    rw [x_stray]; rfl
  have h2 : rd1 nmE ⟨[0], [], 0, 0, false⟩ e1 0 = ⟨0, ⟨[0], [], 0, 0, false⟩, e1⟩ := by
    unfold rd1 rd2
    rw [show fS nmE ((⟨[0], [], 0, 0, false⟩ : Lg).st.getD 0 0) = a0 from a0_is]
    rfl
  unfold opR
  rw [h1]
  show rdsL nmE ⟨[0], [], 0, 0, false⟩ e1 = _
  have h3 : rdsF nmE (⟨[0], [], 0, 0, false⟩ : Lg).st.length 0 ⟨[0], [], 0, 0, false⟩ e1 = ⟨0, ⟨[0], [], 0, 0, false⟩, e1⟩ := by
    show (if (rd1 nmE ⟨[0], [], 0, 0, false⟩ e1 0).e ≠ 0 then _ else _) = _
    rw [h2]; rfl
  unfold rdsL
  rw [h3]; rfl
theorem x_a : putL nmE 100 ⟨[0], [], 0, 0, false⟩ e1 [97] = ⟨0, ⟨[0], [[97]], 9, 0, false⟩, e2⟩ := by
  unfold putL addL
  rw [show fS nmE (⟨[0], [], 0, 0, false⟩ : Lg).lst = a0 from a0_is]
  rfl
theorem x_b : putL nmE 100 ⟨[0], [[97]], 9, 0, false⟩ e2 [98] = ⟨0, ⟨[0], [[97], [98]], 18, 0, false⟩, e3⟩ := by
  unfold putL addL
  rw [show fS nmE (⟨[0], [[97]], 9, 0, false⟩ : Lg).lst = a0 from a0_is]
  rfl
theorem x_s : synC nmE ⟨[0], [[97], [98]], 18, 0, false⟩ e3 = ⟨0, ⟨[0], [[97], [98]], 18, 2, false⟩, e4⟩ := by
  unfold synC synL
  rw [show fS nmE (⟨[0], [[97], [98]], 18, 0, false⟩ : Lg).lst = a0 from a0_is]
  rfl
theorem x_c : putL nmE 100 ⟨[0], [[97], [98]], 18, 2, false⟩ e4 [99] = ⟨0, ⟨[0], [[97], [98], [99]], 27, 2, false⟩, e5⟩ := by
  unfold putL addL
  rw [show fS nmE (⟨[0], [[97], [98]], 18, 2, false⟩ : Lg).lst = a0 from a0_is]
  rfl
theorem x_w : woke (down e5) [] = e6 := by rfl
theorem x_drp2 : drp e6 (fT nmE) = 0 := by rfl
theorem x_del2 : delS e6 (fT nmE) = e6 := by rfl
theorem x_find : fnd e6.fs (fM nmE) = some ⟨aM, (fr [1, 0]).take 10, 10⟩ := by rfl
theorem x_bs : (fr [1, 0]).take 10 = fr (man [0]) := by
  rw [man0, List.take_of_length_le (by rw [fr_len]; decide)]
theorem x_take : ((([] ++ fr [97]) ++ fr [98]) ++ fr [99]).take 18 = rows [[97], [98]] := by
  rw [List.nil_append, List.take_append_of_le_length (by rw [List.length_append, fr_len, fr_len]; decide), List.take_of_length_le (by rw [List.length_append, fr_len, fr_len]; decide)]
  simp [rows]
theorem x_scan : scan (rows [[97], [98]]) = ([[97], [98]], 18) := by
  rw [scan_all _ (by intro l hl; simp at hl; rcases hl with rfl | rfl <;> decide)]
  have : (rows [[97], [98]]).length = 18 := by
    rw [rows_cons, rows_cons, List.length_append, List.length_append, fr_len, fr_len]; rfl
  rw [this]
theorem x_open2 : opR nmE [0] 0 e6 0 e6 = ⟨0, ⟨[0], [[97], [98]], 18, 2, false⟩, e6⟩ := by
  have h0 : stray nmE [0] a0 = false := by
    unfold stray tells
    rw [show ([0] : List Nat).any (fun a => decide (fS nmE a = a0)) = true by simp [a0_is]]
    rfl
  have h1 : sty nmE [0] (e6.fs.map Fl.nm) e6 = (0, e6) := by
    show (if stray nmE [0] a0 then _ else _) = _
    rw [h0]
    show (if stray nmE [0] aM then _ else _) = _
    rw [x_stray]; rfl
  have h2 : rd1 nmE ⟨[0], [], 0, 0, false⟩ e6 0 = ⟨0, ⟨[0], [[97], [98]], 18, 0, false⟩, e6⟩ := by
    unfold rd1 rd2
    rw [show fS nmE ((⟨[0], [], 0, 0, false⟩ : Lg).st.getD 0 0) = a0 from a0_is]
    have e : (old e6 a0).bs = rows [[97], [98]] := x_take
    have el : (rows [[97], [98]]).length = 18 := by
      rw [rows_cons, rows_cons, List.length_append, List.length_append, fr_len, fr_len]; rfl
    rw [e, x_scan, el]
    rfl
  unfold opR
  rw [h1]
  show rdsL nmE ⟨[0], [], 0, 0, false⟩ e6 = _
  have h3 : rdsF nmE (⟨[0], [], 0, 0, false⟩ : Lg).st.length 0 ⟨[0], [], 0, 0, false⟩ e6 = ⟨0, ⟨[0], [[97], [98]], 18, 0, false⟩, e6⟩ := by
    show (if (rd1 nmE ⟨[0], [], 0, 0, false⟩ e6 0).e ≠ 0 then _ else _) = _
    rw [h2]; rfl
  unfold rdsL
  rw [h3]; rfl
end Go.Proofs.YtcodihgjfhoepaaGreatDoor

/- The chapter's example: the log's calls one behind the other. -/
namespace Go.Proofs.YtcodihgjfhoepaaGreatDoor
open Go Go.RowKit Crc Pk
set_option maxRecDepth 20000

theorem byt1 (w : World) (x : Int) (hx : 0 ≤ x ∧ x < 256) (k : Nat × Nat) : Byt (w.alloc (.cells #[.int .u8 x] 5 k)) (some ⟨w.heap.size, 0, none⟩) [x] := by
  refine ⟨fun i hi => ⟨w.heap.size, 0, rfl, ?_⟩, fun c hc => ?_⟩
  · have : i = 0 := by simp at hi; omega
    subst this
    exact World.cell?_alloc_mark w _ _ _ 0
  · simp only [List.mem_cons, List.not_mem_nil, or_false] at hc
    subst hc
    exact hx
theorem nmE_ok : ∀ c ∈ nl nmE, 97 ≤ c.toNat ∧ c.toNat ≤ 122 := by
  intro c hc
  have : c = 97 := by simpa [nl, nmE] using hc
  subst this; decide
theorem pl_m : Plain nmE aM := ⟨sM, rfl, by decide, by decide⟩
theorem pl_0 : Plain nmE a0 := ⟨⟨#[48]⟩, rfl, by decide, by decide⟩
theorem wf1 : Wf ⟨[0], [], 0, 0, false⟩ := ⟨by simp, by simp, by decide, by decide, by decide, by simp, by decide⟩
theorem wf2 : Wf ⟨[0], [[97], [98]], 18, 2, false⟩ := ⟨by simp, by simp, by decide, by decide, by decide, by
  intro r hr
  simp only [List.mem_cons, List.not_mem_nil, or_false] at hr
  rcases hr with rfl | rfl
  · exact ⟨fun c hc => by simp at hc; omega, by decide⟩
  · exact ⟨fun c hc => by simp at hc; omega, by decide⟩, by decide⟩
section
variable {B : Nat} {w w' : World} {d m : Nat} {V V' : ByteArray → Value} {S T : St} {g : Nat} {nm : ByteArray} {most : Nat} {sv rv sv' rv' : Value} {P P' : Nat → Prop} {L L' : Lg} {Q : Lg → Prop}
/- Open on the empty disk, and behind the fall -/
theorem ex_open1 (h : Dk w d m V e0) (ht : Tb w) (hB4 : 4 ≤ B) (hBw : B ≤ w.heap.size) (hBf : ∀ x, Fp d m V e0.fs x → B ≤ x) :
    Calls Tryz.prog 17 #[ptr d, .string nmE, .int .i64 100] w (OP B w d m V e0 nmE 100 ⟨0, ⟨[0], [], 0, 0, false⟩, e1⟩) :=
  open_any h ht hB4 hBw hBf (by decide) nmE_ok (by decide) (by decide) (most := 100) (by omega) (by omega) [0] 0 e1 (by decide) (by simp) (by simp)
    (fun _ => .inl ⟨rfl, rfl, by rw [x_del]; exact x_tel⟩) (fun f hf => by
      have : f = ⟨aM, fr [1, 0], 10⟩ := by simpa [e1] using hf
      subst this; exact pl_m) _ (by rw [x_drp, x_del]; exact x_open) (fun _ => wf1)
theorem ex_open2 (h : Dk w d m V e6) (ht : Tb w) (hB4 : 4 ≤ B) (hBw : B ≤ w.heap.size) (hBf : ∀ x, Fp d m V e6.fs x → B ≤ x) :
    Calls Tryz.prog 17 #[ptr d, .string nmE, .int .i64 100] w (OP B w d m V e6 nmE 100 ⟨0, ⟨[0], [[97], [98]], 18, 2, false⟩, e6⟩) :=
  open_any h ht hB4 hBw hBf (by decide) nmE_ok (by decide) (by decide) (most := 100) (by omega) (by omega) [0] 0 e6 (by decide) (by simp) (by simp)
    (fun _ => .inr ⟨_, by rw [x_del2]; exact x_find, x_bs, rfl, x_del2.symm⟩) (fun f hf => by
      have : f = ⟨a0, ((([] ++ fr [97]) ++ fr [98]) ++ fr [99]).take 18, 18⟩ ∨ f = ⟨aM, (fr [1, 0]).take 10, 10⟩ := by simpa [e6] using hf
      rcases this with rfl | rfl
      · exact pl_0
      · exact pl_m) _ (by rw [x_drp2, x_del2]; exact x_open2) (fun _ => wf2)
/- the log's calls in the example -/
def Xl (B : Nat) (w : World) (d g : Nat) (S : St) (L : Lg) : Prop := ∃ m V sv rv P, Lp B w d m V S g nmE 100 sv rv P L
theorem Xl.act {w1 : World} {R : Rs3} {e : Ending} (hb : Below w.heap.size w w1) (hB : B ≤ w.heap.size) (h1 : Lp B w1 d m V S g nmE 100 sv rv P L) (h : LAct B w1 d m V S g nmE 100 rv P R e w') :
    e = .returned (.int .i64 (R.e : Int)) ∧ Xl B w' d g R.s R.l ∧ Below B w w' := by
  obtain ⟨e1, V2, sv2, rv2, P2, h2, hk, -, -⟩ := h
  exact ⟨e1, ⟨m, V2, sv2, rv2, P2, h2⟩, (hb.mono hB).trans (hk.below h1.from_ h1.bw)⟩
theorem ex_app (h : Xl B w d g S L) (hf : L.fin < 1000) (x : Int) (hx : 0 ≤ x ∧ x < 256) (k : Nat × Nat) :
    Calls Tryz.prog 24 #[ptr g, .slice (some ⟨w.heap.size, 0, none⟩) 1 1] (w.alloc (.cells #[.int .u8 x] 5 k)) fun e w' => e = .returned (.int .i64 ((putL nmE 100 L S [x]).e : Int)) ∧ Xl B w' d g (putL nmE 100 L S [x]).s (putL nmE 100 L S [x]).l ∧ Below B w w' := by
  obtain ⟨m, V, sv, rv, P, h⟩ := h
  have hb := below_alloc w (.cells #[.int .u8 x] 5 k)
  have h1 := h.below hb
  refine (append_log h1 (some ⟨w.heap.size, 0, none⟩) 1 1 [x] rfl (by omega) (byt1 w x hx k) (by intro e; cases e) (by omega) (fun y e => ?_) hf).mono ?_
  · injection e with e
    subst e
    refine ⟨fun f => ?_, by simp⟩
    have := h.mlt _ f
    simp only at this
    omega
  · intro e w' ha
    exact Xl.act hb h.bw h1 ha
theorem ex_sync (h : Xl B w d g S L) :
    Calls Tryz.prog 25 #[ptr g] w fun e w' => e = .returned (.int .i64 ((synC nmE L S).e : Int)) ∧ Xl B w' d g (synC nmE L S).s (synC nmE L S).l ∧ Below B w w' := by
  obtain ⟨m, V, sv, rv, P, h⟩ := h
  refine (sync_log h).mono ?_
  intro e w' ha
  exact Xl.act (Below.refl _ w) h.bw h ha
/- the disk alone -/
structure Ed (B : Nat) (w : World) (d m : Nat) (V : ByteArray → Value) (S : St) : Prop where
  dk : Dk w d m V S
  fr : ∀ x, Fp d m V S.fs x → B ≤ x
  tb : Tb w
  bw : B ≤ w.heap.size
  gl : 4 ≤ B
theorem Xl.ed (h : Xl B w d g S L) : ∃ m V, Ed B w d m V S := by
  obtain ⟨m, V, sv, rv, P, h⟩ := h
  exact ⟨m, V, h.dk, fun x hx => h.from_ x (.inl hx), h.tb, h.bw, h.gl⟩
theorem ex_crash (h : Ed B w d m V S) : Calls Tryz.prog 15 #[ptr d] w fun e w' => e = .returned (.tuple #[]) ∧ Ed B w' d m V (down S) ∧ Below B w w' := by
  refine (crash_any h.dk).mono ?_
  rintro e w' ⟨rfl, h1, hk⟩
  exact ⟨rfl, ⟨h1, h.fr, h.tb.keep hk (fun x hx => Nat.le_trans h.gl (h.fr x hx)), Nat.le_trans h.bw hk.size, h.gl⟩, hk.below h.fr h.bw⟩
theorem ex_wake (h : Ed B w d m V S) : Calls Tryz.prog 16 #[ptr d, .slice none 0 0] w fun e w' => e = .returned (.tuple #[]) ∧ (∃ V', Ed B w' d m V' (woke S [])) ∧ Below B w w' := by
  refine (wake_any h.dk none 0 0 [] rfl (fun i hi => by simp at hi) (fun x e => by cases e) (by omega)).mono ?_
  intro e w' ha
  obtain ⟨rfl, V2, h1, hk, h3⟩ := ha
  refine ⟨rfl, ⟨V2, h1, fun x hx => ?_, h.tb.keep hk (fun x hx => Nat.le_trans h.gl (h.fr x hx)), Nat.le_trans h.bw hk.size, h.gl⟩, hk.below h.fr h.bw⟩
  rcases h3 x hx with e | e
  · exact h.fr x e
  · have := h.bw; omega
theorem OP.ex {R : Rs3} {e : Ending} (h : Ed B w d m V S) (ha : OP B w d m V S nmE 100 R e w') (h0 : R.e = 0) : ∃ g, e = .returned (.tuple #[ptr g, .int .i64 0]) ∧ Xl B w' d g R.s R.l ∧ Below B w w' := by
  obtain ⟨V', g, sv, rv, P, -, h1, h2, hk, -⟩ := ha
  obtain ⟨e1, h3⟩ := h1 h0
  exact ⟨g, e1, ⟨m, V', sv, rv, P, h3⟩, hk.below h.fr h.bw⟩
end
theorem below_three (w : World) (o1 o2 o3 : Obj) : Below w.heap.size w (((w.alloc o1).alloc o2).alloc o3) :=
  below_go (below_go (below_alloc w o1) (below_alloc _ o2)) (below_alloc _ o3)
theorem rws_below' {w w' : World} {A : Option Addr} {L : List (List Int)} (hb : Below w.heap.size w w') (h : Rws w A L) : Rws w' A L := fun i hi => by
  obtain ⟨b, off, A', C, e1, e2, e3⟩ := h i hi
  exact ⟨b, off, A', C, e1, (hb.cell (p := ⟨b, off + i, none⟩) (World.block_lt_of_cell? _ _ e2)).trans e2, e3.below hb⟩
theorem rws_two (w : World) : Rws (((w.alloc (.cells #[.int .u8 97] 5 (1, 2))).alloc (.cells #[.int .u8 98] 5 (1, 2))).alloc (.cells #[.slice (some ⟨w.heap.size, 0, none⟩) 1 1, .slice (some ⟨w.heap.size + 1, 0, none⟩) 1 1] 29)) (some ⟨w.heap.size + 2, 0, none⟩) [[97], [98]] := by
  have h1 := byt1 w 97 (by omega) (1, 2)
  have h2 := byt1 (w.alloc (.cells #[.int .u8 97] 5 (1, 2))) 98 (by omega) (1, 2)
  have e1 : (w.alloc (.cells #[.int .u8 97] 5 (1, 2))).heap.size = w.heap.size + 1 := by simp [go_sem]
  rw [e1] at h2
  intro i hi
  have : i = 0 ∨ i = 1 := by simp at hi; omega
  rcases this with rfl | rfl
  · exact ⟨w.heap.size + 2, 0, _, 1, rfl, by simp [go_sem, g0], (h1.below (below_alloc _ _)).below (below_alloc _ _)⟩
  · exact ⟨w.heap.size + 2, 0, _, 1, rfl, by simp [go_sem, g0], h2.below (below_alloc _ _)⟩
set_option maxHeartbeats 4000000 in
theorem fixed_any (w : World) (ht : Tb w) (h4 : 4 ≤ w.heap.size) : Calls Tryz.prog 7 #[] w fun e w' => e = .returned (.bool true) ∧ Below w.heap.size w w' := by
  have C := Lib.hid (new_b w 1000 (by omega))
  have TB := Lib.hid ht
  have hcv := fun (w : World) (C : Array Value) (n c : Nat) => Lib.run_convert_bytes_const (P := Tryz.prog) w 29 5 C n c Tryz.underlying29 Tryz.underlying5
  clear ht
  go_enter Tryz.func7, Tryz.ntmps7
  go_wp2_with fail
  refine C.out.mono ?_
  rintro e w1 ⟨d, m, V, rfl, h1, h2⟩
  have E1 : Ed w.heap.size w1 d m V e0 := ⟨h1.dk, h1.from_, TB.out.below h2 (Nat.lt_of_lt_of_le (by decide) h4), h2.size, h4⟩
  have C1 := Lib.hid (ex_open1 E1.dk E1.tb E1.gl E1.bw E1.fr)
  have HE := Lib.hid E1
  have B1 := Lib.hid h2
  clear h1 h2 E1 C TB
  go_wp2_with fail
  refine C1.out.mono ?_
  intro e w2 hA
  obtain ⟨g, rfl, X2, b2⟩ := OP.ex HE.out hA rfl
  have C2 := Lib.hid (ex_app (X2 : Xl w.heap.size w2 d g e1 ⟨[0], [], 0, 0, false⟩) (by decide) 97 (by omega) (1, 2))
  have B2 := Lib.hid (B1.out.trans b2)
  clear hA X2 b2 HE C1 B1
  go_wp2_with fail
  refine C2.out.mono ?_
  rintro e w3 ⟨rfl, X3, b3⟩
  rw [x_a] at X3
  have C3 := Lib.hid (ex_app (X3 : Xl w.heap.size w3 d g e2 ⟨[0], [[97]], 9, 0, false⟩) (by decide) 98 (by omega) (1, 2))
  have B3 := Lib.hid (B2.out.trans b3)
  clear X3 b3 C2 B2
  go_wp2_with fail
  refine C3.out.mono ?_
  rintro e w4 ⟨rfl, X4, b4⟩
  rw [x_b] at X4
  have C4 := Lib.hid (ex_sync (X4 : Xl w.heap.size w4 d g e3 ⟨[0], [[97], [98]], 18, 0, false⟩))
  have B4 := Lib.hid (B3.out.trans b4)
  clear X4 b4 C3 B3
  go_wp2_with fail
  refine C4.out.mono ?_
  rintro e w5 ⟨rfl, X5, b5⟩
  rw [x_s] at X5
  have C5 := Lib.hid (ex_app (X5 : Xl w.heap.size w5 d g e4 ⟨[0], [[97], [98]], 18, 2, false⟩) (by decide) 99 (by omega) (1, 2))
  have B5 := Lib.hid (B4.out.trans b5)
  clear X5 b5 C4 B4
  go_wp2_with fail
  refine C5.out.mono ?_
  rintro e w6 ⟨rfl, X6, b6⟩
  rw [x_c] at X6
  obtain ⟨m6, V6, E6⟩ := (X6 : Xl w.heap.size w6 d g e5 ⟨[0], [[97], [98], [99]], 27, 2, false⟩).ed
  have C6 := Lib.hid (ex_crash E6)
  have B6 := Lib.hid (B5.out.trans b6)
  clear X6 b6 C5 B5 E6
  go_wp2_with fail
  refine C6.out.mono ?_
  rintro e w7 ⟨rfl, E7, b7⟩
  have C7 := Lib.hid (ex_wake E7)
  have B7 := Lib.hid (B6.out.trans b7)
  clear E7 b7 C6 B6
  go_wp2_with fail
  refine C7.out.mono ?_
  rintro e w8 ⟨rfl, ⟨V8, E8⟩, b8⟩
  rw [x_w] at E8
  have C8 := Lib.hid (ex_open2 E8.dk E8.tb E8.gl E8.bw E8.fr)
  have HE := Lib.hid E8
  have B8 := Lib.hid (B7.out.trans b8)
  clear E8 b8 C7 B7
  go_wp2_with fail
  refine C8.out.mono ?_
  intro e w9 hA
  obtain ⟨g2, rfl, ⟨m9, V9, sv9, rv9, P9, X9⟩, b9⟩ := OP.ex HE.out hA rfl
  have C9 := Lib.hid (all_any X9 (by decide) (fun r hr => (X9.wf.recs r hr).2))
  have B9 := Lib.hid (B8.out.trans b9)
  clear hA X9 b9 HE C8 B8
  go_wp2_with fail
  refine C9.out.mono ?_
  rintro e w10 ⟨A, c, rfl, r10, b10⟩
  have R10 := Lib.hid (show Rws w10 A [[97], [98]] from r10)
  have B10 := Lib.hid (below_go B9.out b10)
  have cv2 := Joins.run_convert_bytes_const_at (P := Tryz.prog) (w10.alloc (.cells #[.int .u8 97] 5 (1, 2))) 29 5 #[.int .u8 98] 1 1 (w10.heap.size + 1) (by simp [go_sem]) Tryz.underlying29 Tryz.underlying5
  have b3 := below_three w10 (.cells #[.int .u8 97] 5 (1, 2)) (.cells #[.int .u8 98] 5 (1, 2)) (.cells #[.slice (some ⟨w10.heap.size, 0, none⟩) 1 1, .slice (some ⟨w10.heap.size + 1, 0, none⟩) 1 1] 29)
  have CS := Lib.hid (same_eq A (some ⟨w10.heap.size + 2, 0, none⟩) 2 c 2 [[97], [98]] (((w10.alloc (.cells #[.int .u8 97] 5 (1, 2))).alloc (.cells #[.int .u8 98] 5 (1, 2))).alloc (.cells #[.slice (some ⟨w10.heap.size, 0, none⟩) 1 1, .slice (some ⟨w10.heap.size + 1, 0, none⟩) 1 1] 29)) rfl (by omega) (rws_below' b3 R10.out) (rws_two w10))
  have B11 := Lib.hid (below_go B10.out b3)
  clear b3 R10 B10
  go_wp2_with fail
  refine CS.out.mono ?_
  rintro e w11 ⟨rfl, b11⟩
  have B12 := Lib.hid (below_go B11.out b11)
  clear b11 CS B11
  go_wp2_with fail
  go_ret
  exact ⟨rfl, B12.out⟩
end Go.Proofs.YtcodihgjfhoepaaGreatDoor

/- SeglogNil: the calls of a log that isn't there. -/
namespace Go.Proofs.YtcodihgjfhoepaaGreatDoor
open Go Go.RowKit Crc Pk
set_option maxRecDepth 20000

theorem nil_get (n : Int) (w : World) : Calls Tryz.prog 18 #[.pointer none, .int .u64 n] w fun e w' => e = .returned (.tuple #[.slice none 0 0, .int .i64 1]) ∧ w' = w := by
  go_enter Tryz.func18, Tryz.ntmps18
  go_wp2_with fail
  go_ret2
  exact ⟨rfl, rfl⟩
theorem nil_base (w : World) : Calls Tryz.prog 11 #[.pointer none] w fun e w' => e = .returned (.int .u64 0) ∧ w' = w := by
  go_enter Tryz.func11, Tryz.ntmps11
  go_wp2_with fail
  go_ret
  exact ⟨rfl, rfl⟩
theorem nil_end (w : World) : Calls Tryz.prog 13 #[.pointer none] w fun e w' => e = .returned (.int .u64 0) ∧ w' = w := by
  go_enter Tryz.func13, Tryz.ntmps13
  go_wp2_with fail
  go_ret
  exact ⟨rfl, rfl⟩
theorem nil_safe (w : World) : Calls Tryz.prog 12 #[.pointer none] w fun e w' => e = .returned (.int .u64 0) ∧ w' = w := by
  go_enter Tryz.func12, Tryz.ntmps12
  go_wp2_with fail
  go_ret
  exact ⟨rfl, rfl⟩
theorem nil_all (w : World) : Calls Tryz.prog 14 #[.pointer none] w fun e w' => e = .returned (.slice none 0 0) ∧ w' = w := by
  go_enter Tryz.func14, Tryz.ntmps14
  go_wp2_with fail
  go_ret
  exact ⟨rfl, rfl⟩
theorem nil_segs (w : World) : Calls Tryz.prog 23 #[.pointer none] w fun e w' => e = .returned (.slice none 0 0) ∧ w' = w := by
  go_enter Tryz.func23, Tryz.ntmps23
  go_wp2_with fail
  go_ret
  exact ⟨rfl, rfl⟩
theorem nil_chg (fv : Value) (w : World) : Calls Tryz.prog 46 #[.pointer none, fv] w fun e w' => e = .returned (.int .i64 1) ∧ w' = w := by
  go_enter Tryz.func46, Tryz.ntmps46
  go_wp2_with fail
  go_ret
  exact ⟨rfl, rfl⟩
theorem nil_app (A : Option Addr) (n c : Nat) (w : World) : Calls Tryz.prog 24 #[.pointer none, .slice A n c] w fun e w' => e = .returned (.int .i64 1) ∧ Below w.heap.size w w' := by
  have C := Lib.hid nil_chg
  have HB := Lib.hid (below_go (below_alloc w (.cells #[.pointer none] 35)) (below_alloc (w.alloc (.cells #[.pointer none] 35)) (.cells #[.slice A n c] 29)))
  go_enter Tryz.func24, Tryz.ntmps24
  go_wp2_with fail
  refine (C.out _ _).mono ?_
  rintro e w' ⟨rfl, rfl⟩
  go_wp2_with fail
  go_ret
  exact ⟨rfl, HB.out⟩
theorem nil_sync (w : World) : Calls Tryz.prog 25 #[.pointer none] w fun e w' => e = .returned (.int .i64 1) ∧ Below w.heap.size w w' := by
  have C := Lib.hid nil_chg
  go_enter Tryz.func25, Tryz.ntmps25
  go_wp2_with fail
  refine (C.out _ _).mono ?_
  rintro e w' ⟨rfl, rfl⟩
  go_wp2_with fail
  go_ret
  exact ⟨rfl, Below.refl _ _⟩
theorem nil_trim (n : Int) (w : World) : Calls Tryz.prog 26 #[.pointer none, .int .u64 n] w fun e w' => e = .returned (.int .i64 1) ∧ Below w.heap.size w w' := by
  have C := Lib.hid nil_chg
  have HB := Lib.hid (below_go (below_alloc w (.cells #[.pointer none] 35)) (below_alloc (w.alloc (.cells #[.pointer none] 35)) (.cells #[.int .u64 n] 30)))
  go_enter Tryz.func26, Tryz.ntmps26
  go_wp2_with fail
  refine (C.out _ _).mono ?_
  rintro e w' ⟨rfl, rfl⟩
  go_wp2_with fail
  go_ret
  exact ⟨rfl, HB.out⟩
set_option maxHeartbeats 4000000 in
theorem nil_walk (A : Option Addr) (n c : Nat) (k : Int) (w : World) (ht : Tb w) (h4 : 4 ≤ w.heap.size) (hn : n ≤ 9223372036854775807) :
    Calls Tryz.prog 5 #[.slice A n c, .int .u64 k] w fun e w' => e = .returned (.bool true) ∧ Below w.heap.size w w' := by
  have CF := Lib.hid (fixed_any w ht h4)
  by_cases hl : n ≤ 3000
  · have hl' : decide ((3000 : Int) < (n : Int)) = false := by simp; omega
    have CG := Lib.hid nil_get
    have CA := Lib.hid nil_app
    have CS := Lib.hid nil_sync
    have CT := Lib.hid nil_trim
    have CB := Lib.hid nil_base
    have CE := Lib.hid nil_end
    have CZ := Lib.hid nil_safe
    have CL := Lib.hid nil_all
    have CM := Lib.hid nil_segs
    clear ht h4
    go_enter Tryz.func5, Tryz.ntmps5
    go_wp2_with fail
    refine (CG.out _ _).mono ?_
    rintro e w' ⟨rfl, rfl⟩
    go_wp2_with fail
    refine CF.out.mono ?_
    rintro e w1 ⟨rfl, b1⟩
    have B1 := Lib.hid b1
    clear b1 CF CG
    go_wp2_with fail
    refine (CA.out _ _ _ _).mono ?_
    rintro e w2 ⟨rfl, b2⟩
    have B2 := Lib.hid (below_go B1.out b2)
    clear b2 B1 CA
    go_wp2_with fail
    refine (CS.out _).mono ?_
    rintro e w3 ⟨rfl, b3⟩
    have B3 := Lib.hid (below_go B2.out b3)
    clear b3 B2 CS
    go_wp2_with fail
    refine (CT.out _ _).mono ?_
    rintro e w4 ⟨rfl, b4⟩
    have B4 := Lib.hid (below_go B3.out b4)
    clear b4 B3 CT
    go_wp2_with fail
    refine (CB.out _).mono ?_
    rintro e w5 ⟨rfl, rfl⟩
    go_wp2_with fail
    refine (CE.out _).mono ?_
    rintro e w5 ⟨rfl, rfl⟩
    go_wp2_with fail
    refine (CZ.out _).mono ?_
    rintro e w5 ⟨rfl, rfl⟩
    go_wp2_with fail
    refine (CL.out _).mono ?_
    rintro e w5 ⟨rfl, rfl⟩
    go_wp2_with fail
    refine (CM.out _).mono ?_
    rintro e w5 ⟨rfl, rfl⟩
    go_wp2_with fail
    go_ret
    exact ⟨rfl, B4.out⟩
  · have hl' : decide ((3000 : Int) < (n : Int)) = true := by simp; omega
    clear ht h4
    go_enter Tryz.func5, Tryz.ntmps5
    go_wp2_with fail
    refine CF.out.mono ?_
    rintro e w1 ⟨rfl, b1⟩
    have B1 := Lib.hid b1
    clear b1 CF
    go_wp2_with fail
    go_ret
    exact ⟨rfl, B1.out⟩
end Go.Proofs.YtcodihgjfhoepaaGreatDoor
