/- The log's calls that change it. -/
import Derived.Test.YtcodihgjfhoepaaGreatDoorSgX
namespace Go.Proofs.YtcodihgjfhoepaaGreatDoor
open Go Go.RowKit Crc Pk
set_option maxRecDepth 20000

theorem synL_nine {nm : ByteArray} {L : Lg} {S : St} (h : (synL nm L S).e = 9) : (synL nm L S).l.gn = true := by
  rw [synL_bad (by rw [h]; decide)]; rfl
theorem begL_nine {nm : ByteArray} {L : Lg} {S : St} (h : (begL nm L S).e = 9) : (begL nm L S).l.gn = true := by
  unfold begL at *
  split
  · rename_i c
    rw [if_pos c] at h
    exact synL_nine h
  · rename_i c
    rw [if_neg c] at h
    split
    · rename_i c2
      rw [if_pos c2] at h
      exact decide_eq_true h
    · rename_i c2
      rw [if_neg c2] at h
      exact absurd (show (0 : Nat) = 9 from h) (by decide)
theorem addL_nine {nm : ByteArray} {L : Lg} {S : St} {r : List Int} (h : (addL nm L S r).e = 9) : (addL nm L S r).l.gn = true := by
  unfold addL at *
  split
  · rename_i c
    rw [if_pos c] at h
    exact decide_eq_true h
  · rename_i c
    rw [if_neg c] at h
    exact absurd (show (0 : Nat) = 9 from h) (by decide)
theorem putK_nine {nm : ByteArray} {most : Nat} {L : Lg} {S : St} {r : List Int} (h : (putK nm most L S r).e = 9) : (putK nm most L S r).l.gn = true := by
  unfold putK at *
  split
  · rename_i c
    rw [if_pos c] at h
    split
    · rename_i c2
      rw [if_pos c2] at h
      exact begL_nine h
    · rename_i c2
      rw [if_neg c2] at h
      exact addL_nine h
  · rename_i c
    rw [if_neg c] at h
    exact addL_nine h
theorem trmK_nine {nm : ByteArray} {L : Lg} {S : St} {n : Nat} (h : (trmK nm L S n).e = 9) : (trmK nm L S n).l.gn = true := by
  unfold trmK at *
  split
  · rename_i c
    rw [if_pos c] at h
    exact absurd (show (0 : Nat) = 9 from h) (by decide)
  · rename_i c
    rw [if_neg c] at h
    split
    · rename_i c2
      rw [if_pos c2] at h
      exact decide_eq_true h
    · rename_i c2
      rw [if_neg c2] at h
      exact decide_eq_true h
section
variable {B : Nat} {w w' : World} {d m : Nat} {V V' : ByteArray → Value} {S T : St} {g : Nat} {nm : ByteArray} {most : Nat} {sv rv sv' rv' : Value} {P P' : Nat → Prop} {L L' : Lg}
theorem go_self (L : Lg) : L.go L.gn = L := rfl
theorem Lstep.bel {w1 w2 : World} (hb : Below w.heap.size w w1) (h : Lstep B w1 d m V S g nm most rv P T L' w2) : Lstep B w d m V S g nm most rv P T L' w2 :=
  Lstep.trans (Keep.of_below _ hb) (fun x hx => .inl hx) (fun x hx => .inl hx) h
theorem LAct.bel {w1 w2 : World} {R : Rs3} {e : Ending} (hb : Below w.heap.size w w1) (h : LAct B w1 d m V S g nm most rv P R e w2) : LAct B w d m V S g nm most rv P R e w2 := ⟨h.1, Lstep.bel hb h.2⟩
set_option maxHeartbeats 1000000 in
theorem chg_gone (h : Lp B w d m V S g nm most sv rv P L) (hg : L.gn = true) (fv : Value) :
    Calls Tryz.prog 46 #[ptr g, fv] w (LAct B w d m V S g nm most rv P ⟨9, L, S⟩) := by
  have c7 := h.c7
  rw [hg] at c7
  have HH := Lib.hid h
  clear h hg
  go_enter Tryz.func46, Tryz.ntmps46
  go_wp2_with fail
  go_ret
  exact ⟨rfl, HH.out.stay (Below.refl _ _)⟩
set_option maxHeartbeats 2000000 in
theorem chg_f_sync (h : Lp B w d m V S g nm most sv rv P L) (hg : L.gn = false) (R : Rs3) (C : Calls Tryz.prog 49 #[ptr g] w (PA B w d m V S g nm most rv P R)) (h9 : R.e = 9 → R.l.gn = true) :
    Calls Tryz.prog 46 #[ptr g, .func (.func 49) #[ptr g] #[]] w (LAct B w d m V S g nm most rv P R) := by
  have c7 := h.c7
  rw [hg] at c7
  have CC := Lib.hid C
  have H9 := Lib.hid h9
  obtain ⟨re, rl, rs⟩ := R
  simp only at H9 CC
  clear h hg C h9
  by_cases c9 : re = 9
  · subst c9
    have G9 := Lib.hid (H9.out rfl)
    go_enter Tryz.func46, Tryz.ntmps46
    go_wp2_with fail
    refine CC.out.mono ?_
    rintro e w1 ⟨rfl, b, hb, V1, sv1, rv1, P1, h1, k1, m1, p1⟩
    have H1 := Lib.hid h1
    have K1 := Lib.hid k1
    have M1 := Lib.hid m1
    have PP1 := Lib.hid p1
    have c71 := h1.c7
    have f71 := h1.free 7
    clear hb h1 k1 m1 p1 CC
    go_wp2_with fail
    go_ret
    obtain ⟨q1, q2⟩ := H1.out.flag true (H1.out.wf.go true)
    have e : ((rl.go b).go true) = rl := by
      obtain ⟨a1, a2, a3, a4, a5⟩ := rl
      have : a5 = true := G9.out
      rw [this]; rfl
    rw [e] at q1
    exact ⟨rfl, V1, sv1, rv1, P1, q1, K1.out.trans q2 (fun i hi f => (M1.out i f).resolve_right (by omega)), M1.out, PP1.out⟩
  · have c9' : ¬ ((re : Int) = 9) := by omega
    go_enter Tryz.func46, Tryz.ntmps46
    go_wp2_with fail
    refine CC.out.mono ?_
    rintro e w1 ⟨rfl, b, hb, hs⟩
    have hbb : b = rl.gn := hb.resolve_right c9
    subst hbb
    have HS := Lib.hid hs
    clear hb hs CC
    go_wp2_with fail
    go_ret
    exact ⟨rfl, HS.out⟩
set_option maxHeartbeats 2000000 in
theorem chg_f_app (h : Lp B w d m V S g nm most sv rv P L) (hg : L.gn = false) (R : Rs3) (a b : Nat) (C : Calls Tryz.prog 47 #[ptr a, ptr b] w (PA B w d m V S g nm most rv P R)) (h9 : R.e = 9 → R.l.gn = true) :
    Calls Tryz.prog 46 #[ptr g, .func (.func 47) #[] #[ptr a, ptr b]] w (LAct B w d m V S g nm most rv P R) := by
  have c7 := h.c7
  rw [hg] at c7
  have CC := Lib.hid C
  have H9 := Lib.hid h9
  obtain ⟨re, rl, rs⟩ := R
  simp only at H9 CC
  clear h hg C h9
  by_cases c9 : re = 9
  · subst c9
    have G9 := Lib.hid (H9.out rfl)
    go_enter Tryz.func46, Tryz.ntmps46
    go_wp2_with fail
    refine CC.out.mono ?_
    rintro e w1 ⟨rfl, b, hb, V1, sv1, rv1, P1, h1, k1, m1, p1⟩
    have H1 := Lib.hid h1
    have K1 := Lib.hid k1
    have M1 := Lib.hid m1
    have PP1 := Lib.hid p1
    have c71 := h1.c7
    have f71 := h1.free 7
    clear hb h1 k1 m1 p1 CC
    go_wp2_with fail
    go_ret
    obtain ⟨q1, q2⟩ := H1.out.flag true (H1.out.wf.go true)
    have e : ((rl.go b).go true) = rl := by
      obtain ⟨a1, a2, a3, a4, a5⟩ := rl
      have : a5 = true := G9.out
      rw [this]; rfl
    rw [e] at q1
    exact ⟨rfl, V1, sv1, rv1, P1, q1, K1.out.trans q2 (fun i hi f => (M1.out i f).resolve_right (by omega)), M1.out, PP1.out⟩
  · have c9' : ¬ ((re : Int) = 9) := by omega
    go_enter Tryz.func46, Tryz.ntmps46
    go_wp2_with fail
    refine CC.out.mono ?_
    rintro e w1 ⟨rfl, b, hb, hs⟩
    have hbb : b = rl.gn := hb.resolve_right c9
    subst hbb
    have HS := Lib.hid hs
    clear hb hs CC
    go_wp2_with fail
    go_ret
    exact ⟨rfl, HS.out⟩
set_option maxHeartbeats 2000000 in
theorem chg_f_trm (h : Lp B w d m V S g nm most sv rv P L) (hg : L.gn = false) (R : Rs3) (a b : Nat) (C : Calls Tryz.prog 50 #[ptr a, ptr b] w (PA B w d m V S g nm most rv P R)) (h9 : R.e = 9 → R.l.gn = true) :
    Calls Tryz.prog 46 #[ptr g, .func (.func 50) #[] #[ptr a, ptr b]] w (LAct B w d m V S g nm most rv P R) := by
  have c7 := h.c7
  rw [hg] at c7
  have CC := Lib.hid C
  have H9 := Lib.hid h9
  obtain ⟨re, rl, rs⟩ := R
  simp only at H9 CC
  clear h hg C h9
  by_cases c9 : re = 9
  · subst c9
    have G9 := Lib.hid (H9.out rfl)
    go_enter Tryz.func46, Tryz.ntmps46
    go_wp2_with fail
    refine CC.out.mono ?_
    rintro e w1 ⟨rfl, b, hb, V1, sv1, rv1, P1, h1, k1, m1, p1⟩
    have H1 := Lib.hid h1
    have K1 := Lib.hid k1
    have M1 := Lib.hid m1
    have PP1 := Lib.hid p1
    have c71 := h1.c7
    have f71 := h1.free 7
    clear hb h1 k1 m1 p1 CC
    go_wp2_with fail
    go_ret
    obtain ⟨q1, q2⟩ := H1.out.flag true (H1.out.wf.go true)
    have e : ((rl.go b).go true) = rl := by
      obtain ⟨a1, a2, a3, a4, a5⟩ := rl
      have : a5 = true := G9.out
      rw [this]; rfl
    rw [e] at q1
    exact ⟨rfl, V1, sv1, rv1, P1, q1, K1.out.trans q2 (fun i hi f => (M1.out i f).resolve_right (by omega)), M1.out, PP1.out⟩
  · have c9' : ¬ ((re : Int) = 9) := by omega
    go_enter Tryz.func46, Tryz.ntmps46
    go_wp2_with fail
    refine CC.out.mono ?_
    rintro e w1 ⟨rfl, b, hb, hs⟩
    have hbb : b = rl.gn := hb.resolve_right c9
    subst hbb
    have HS := Lib.hid hs
    clear hb hs CC
    go_wp2_with fail
    go_ret
    exact ⟨rfl, HS.out⟩

theorem LA.pa {n : Nat} {e : Ending} (h : LA B w d m V S g nm most sv rv P n T L' e w') : PA B w d m V S g nm most rv P ⟨n, L', T⟩ e w' := by
  obtain ⟨e1, V', a, b, c⟩ := h
  exact ⟨e1, L'.gn, .inl rfl, V', sv, rv, P, a, b, c, fun x hx => .inl hx⟩
/- Sync -/
theorem sync_log (h : Lp B w d m V S g nm most sv rv P L) : Calls Tryz.prog 25 #[ptr g] w (LAct B w d m V S g nm most rv P (synC nm L S)) := by
  by_cases hg : L.gn = true
  · have e : synC nm L S = ⟨9, L, S⟩ := by unfold synC; rw [if_pos hg]
    rw [e]
    have C := Lib.hid (chg_gone h hg)
    clear h e hg
    go_enter Tryz.func25, Tryz.ntmps25
    go_wp2_with fail
    refine (C.out _).mono ?_
    rintro e w1 ⟨rfl, hs⟩
    have HS := Lib.hid hs
    clear hs
    go_wp2_with fail
    go_ret
    exact ⟨rfl, HS.out⟩
  · have hg' : L.gn = false := by simpa using hg
    have e : synC nm L S = synL nm L S := by unfold synC; rw [if_neg hg]
    rw [e]
    have C := Lib.hid (chg_f_sync h hg' _ ((lsync_any h).mono (fun e w' ha => LA.pa ha)) synL_nine)
    clear h hg hg' e
    go_enter Tryz.func25, Tryz.ntmps25
    go_wp2_with fail
    refine C.out.mono ?_
    rintro e w1 ⟨rfl, hs⟩
    have HS := Lib.hid hs
    clear hs
    go_wp2_with fail
    go_ret
    exact ⟨rfl, HS.out⟩
/- Append -/
set_option maxHeartbeats 1000000 in
theorem app1 (a b g' : Nat) (A : Option Addr) (n c : Nat) (w : World) (ca : w.cell? ⟨a, 0, none⟩ = some (ptr g')) (cb : w.cell? ⟨b, 0, none⟩ = some (.slice A n c)) (Q : Ending → World → Prop) (C : Calls Tryz.prog 48 #[ptr g', .slice A n c] w Q) (hQ : ∀ e w', Q e w' → ∃ q : Nat, e = .returned (.int .i64 (q : Int))) :
    Calls Tryz.prog 47 #[ptr a, ptr b] w Q := by
  have CC := Lib.hid C
  have HQ := Lib.hid hQ
  clear C hQ
  go_enter Tryz.func47, Tryz.ntmps47
  go_wp2_with fail
  refine CC.out.mono ?_
  intro e w1 hq
  obtain ⟨q, rfl⟩ := HQ.out e w1 hq
  have HR := Lib.hid hq
  clear hq
  go_wp2_with fail
  exact HR.out
set_option maxHeartbeats 1000000 in
theorem trm1 (a b g' : Nat) (n : Nat) (w : World) (ca : w.cell? ⟨a, 0, none⟩ = some (ptr g')) (cb : w.cell? ⟨b, 0, none⟩ = some (.int .u64 (n : Int))) (Q : Ending → World → Prop) (C : Calls Tryz.prog 51 #[ptr g', .int .u64 (n : Int)] w Q) (hQ : ∀ e w', Q e w' → ∃ q : Nat, e = .returned (.int .i64 (q : Int))) :
    Calls Tryz.prog 50 #[ptr a, ptr b] w Q := by
  have CC := Lib.hid C
  have HQ := Lib.hid hQ
  clear C hQ
  go_enter Tryz.func50, Tryz.ntmps50
  go_wp2_with fail
  refine CC.out.mono ?_
  intro e w1 hq
  obtain ⟨q, rfl⟩ := HQ.out e w1 hq
  have HR := Lib.hid hq
  clear hq
  go_wp2_with fail
  exact HR.out
set_option maxHeartbeats 2000000 in
theorem append_log (h : Lp B w d m V S g nm most sv rv P L) (Ar : Option Addr) (n cr : Nat) (r : List Int) (hl : r.length = n) (hn : n ≤ 65536) (hb : Byt w Ar r) (hz : Ar = none → cr = 0) (hc : n ≤ cr)
    (hfar : ∀ x, Ar = some x → ¬ Mu d m V S.fs g rv x.block ∧ x.block < w.heap.size) (hf : L.fin < 1000) :
    Calls Tryz.prog 24 #[ptr g, .slice Ar n cr] w (LAct B w d m V S g nm most rv P (putL nm most L S r)) := by
  have b1 := below_alloc w (.cells #[ptr g] 35)
  have b2 := b1.trans ((below_alloc (w.alloc (.cells #[ptr g] 35)) (.cells #[.slice Ar n cr] 29)).mono b1.size)
  have h2 := h.below b2
  have ca : ((w.alloc (.cells #[ptr g] 35)).alloc (.cells #[.slice Ar n cr] 29)).cell? ⟨w.heap.size, 0, none⟩ = some (ptr g) := by simp [go_sem]
  have cb : ((w.alloc (.cells #[ptr g] 35)).alloc (.cells #[.slice Ar n cr] 29)).cell? ⟨w.heap.size + 1, 0, none⟩ = some (.slice Ar n cr) := by simp [go_sem]
  have B2 := Lib.hid b2
  by_cases hg : L.gn = true
  · have e : putL nm most L S r = ⟨9, L, S⟩ := by unfold putL; rw [if_pos hg]
    rw [e]
    have C := Lib.hid (chg_gone h2 hg)
    clear h h2 e hg b1 b2 ca cb hl hb hz hfar hf
    go_enter Tryz.func24, Tryz.ntmps24
    go_wp2_with fail
    refine (C.out _).mono ?_
    intro e w1 hs0
    obtain ⟨rfl, hs⟩ := LAct.bel B2.out hs0
    have HS := Lib.hid hs
    clear hs hs0
    go_wp2_with fail
    go_ret
    exact ⟨rfl, HS.out⟩
  · have hg' : L.gn = false := by simpa using hg
    rw [putL_is nm most L S r hg']
    have C := Lib.hid (chg_f_app h2 hg' _ w.heap.size (w.heap.size + 1) (app1 w.heap.size (w.heap.size + 1) g Ar n cr _ ca cb _ (put_log h2 hg' Ar n cr r hl hn (hb.below b2) hz hc (fun x e => ⟨(hfar x e).1, Nat.lt_of_lt_of_le (hfar x e).2 b2.size⟩) hf _ rfl) (fun e w' ha => ⟨_, ha.1⟩)) putK_nine)
    clear h h2 hg hg' b1 b2 ca cb hl hb hz hfar hf
    go_enter Tryz.func24, Tryz.ntmps24
    go_wp2_with fail
    refine C.out.mono ?_
    intro e w1 hs0
    obtain ⟨rfl, hs⟩ := LAct.bel B2.out hs0
    have HS := Lib.hid hs
    clear hs hs0
    go_wp2_with fail
    go_ret
    exact ⟨rfl, HS.out⟩
set_option maxHeartbeats 2000000 in
theorem trimC_log (h : Lp B w d m V S g nm most sv rv P L) (n : Nat) (hn : n < 18446744073709551616) :
    Calls Tryz.prog 26 #[ptr g, .int .u64 (n : Int)] w (LAct B w d m V S g nm most rv P (trmL nm L S n)) := by
  have b1 := below_alloc w (.cells #[ptr g] 35)
  have b2 := b1.trans ((below_alloc (w.alloc (.cells #[ptr g] 35)) (.cells #[.int .u64 (n : Int)] 30)).mono b1.size)
  have h2 := h.below b2
  have ca : ((w.alloc (.cells #[ptr g] 35)).alloc (.cells #[.int .u64 (n : Int)] 30)).cell? ⟨w.heap.size, 0, none⟩ = some (ptr g) := by simp [go_sem]
  have cb : ((w.alloc (.cells #[ptr g] 35)).alloc (.cells #[.int .u64 (n : Int)] 30)).cell? ⟨w.heap.size + 1, 0, none⟩ = some (.int .u64 (n : Int)) := by simp [go_sem]
  have B2 := Lib.hid b2
  by_cases hg : L.gn = true
  · have e : trmL nm L S n = ⟨9, L, S⟩ := by unfold trmL; rw [if_pos hg]
    rw [e]
    have C := Lib.hid (chg_gone h2 hg)
    clear h h2 e hg b1 b2 ca cb hn
    go_enter Tryz.func26, Tryz.ntmps26
    go_wp2_with fail
    refine (C.out _).mono ?_
    intro e w1 hs0
    obtain ⟨rfl, hs⟩ := LAct.bel B2.out hs0
    have HS := Lib.hid hs
    clear hs hs0
    go_wp2_with fail
    go_ret
    exact ⟨rfl, HS.out⟩
  · have hg' : L.gn = false := by simpa using hg
    rw [trmL_is nm L S n hg']
    have C := Lib.hid (chg_f_trm h2 hg' _ w.heap.size (w.heap.size + 1) (trm1 w.heap.size (w.heap.size + 1) g n _ ca cb _ (trim_log h2 hg' n hn _ rfl) (fun e w' ha => ⟨_, ha.1⟩)) trmK_nine)
    clear h h2 hg hg' b1 b2 ca cb hn
    go_enter Tryz.func26, Tryz.ntmps26
    go_wp2_with fail
    refine C.out.mono ?_
    intro e w1 hs0
    obtain ⟨rfl, hs⟩ := LAct.bel B2.out hs0
    have HS := Lib.hid hs
    clear hs hs0
    go_wp2_with fail
    go_ret
    exact ⟨rfl, HS.out⟩

end
end Go.Proofs.YtcodihgjfhoepaaGreatDoor
