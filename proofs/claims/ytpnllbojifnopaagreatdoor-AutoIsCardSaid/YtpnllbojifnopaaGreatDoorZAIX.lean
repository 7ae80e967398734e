/- Contracts, joined: AiA, AiC. -/
import Derived.Test.YtpnllbojifnopaaGreatDoorZB3
import Derived.Test.YtpnllbojifnopaaGreatDoorZMF
namespace Go.Proofs.YtpnllbojifnopaaGreatDoor
open Go Go.RowKit Pk Rl
set_option maxRecDepth 20000
abbrev Hv := VQ → Nat → Bool
def Stp (hv : Hv) (H : Nat → Nat → Bool) (N : Nat) (E : List EV) (a b : Nat × Nat) : Prop :=
  ∃ v : Bool × VQ, ((a.1, b.1, v) : EV) ∈ E ∧ b.2 < N ∧ H b.1 b.2 = true ∧ gp (fun k => v.1 && hv v.2 k) a.2 b.2 = true
def Pth (hv : Hv) (H : Nat → Nat → Bool) (N : Nat) (E : List EV) : Nat → Nat × Nat → Nat × Nat → Prop
  | 0, a, b => a = b
  | m + 1, a, b => ∃ c, Pth hv H N E m a c ∧ Stp hv H N E c b
theorem Stp.mono {hv : Hv} {H : Nat → Nat → Bool} {N : Nat} {E E' : List EV} {a b : Nat × Nat} (hE : ∀ e ∈ E, e ∈ E') (h : Stp hv H N E a b) : Stp hv H N E' a b := by
  obtain ⟨v, h1, h2⟩ := h
  exact ⟨v, hE _ h1, h2⟩
theorem Pth.mono {hv : Hv} {H : Nat → Nat → Bool} {N : Nat} {E E' : List EV} (hE : ∀ e ∈ E, e ∈ E') : ∀ {m : Nat} {a b : Nat × Nat}, Pth hv H N E m a b → Pth hv H N E' m a b := by
  intro m
  induction m with
  | zero => intro a b h; exact h
  | succ m ih =>
    intro a b h
    obtain ⟨c, h1, h2⟩ := h
    exact ⟨c, ih h1, h2.mono hE⟩
theorem Pth.app {hv : Hv} {H : Nat → Nat → Bool} {N : Nat} {E : List EV} {m : Nat} {a b : Nat × Nat} (h : Pth hv H N E m a b) : ∀ {m' : Nat} {c : Nat × Nat}, Pth hv H N E m' b c → Pth hv H N E (m + m') a c := by
  intro m'
  induction m' with
  | zero => intro c k; rw [← (show b = c from k)]; exact h
  | succ m' ih =>
    intro c k
    obtain ⟨d, k1, k2⟩ := k
    exact ⟨d, ih k1, k2⟩
def Acc (hv : Hv) (H : Nat → Nat → Bool) (N : Nat) (s : Res) (i j : Nat) : Prop :=
  ∃ p q m, s.1.testBit p = true ∧ H p i = true ∧ i < N ∧ Pth hv H N s.2.2.2 m (p, i) (q, j) ∧ s.2.1.testBit q = true
structure Fam (hv : Hv) (H : Nat → Nat → Bool) (N L : Nat) (o c : Nat → Nat) (S : Nat → Res) (R : Nat → Rl2) : Prop where
  sep : ∀ a b, a < b → b < L → o a + c a ≤ o b
  fr : ∀ a, a < L → ∀ p, (S a).1.testBit p = true → o a ≤ p ∧ p < o a + c a
  lr : ∀ a, a < L → ∀ p, (S a).2.1.testBit p = true → o a ≤ p ∧ p < o a + c a
  er : ∀ a, a < L → ∀ e ∈ (S a).2.2.2, (o a ≤ e.1 ∧ e.1 < o a + c a) ∧ o a ≤ e.2.1 ∧ e.2.1 < o a + c a
  acc : ∀ a, a < L → ∀ i j, R a i j = true ↔ Acc hv H N (S a) i j
theorem Fam.same {hv : Hv} {H : Nat → Nat → Bool} {N L : Nat} {o c : Nat → Nat} {S : Nat → Res} {R : Nat → Rl2} (F : Fam hv H N L o c S R) {a b p : Nat} (ha : a < L) (hb : b < L) (h1 : o a ≤ p ∧ p < o a + c a) (h2 : o b ≤ p ∧ p < o b + c b) : a = b := by
  rcases Nat.lt_trichotomy a b with h | h | h
  · have := F.sep a b h hb; omega
  · exact h
  · have := F.sep b a h ha; omega
theorem Pth.stay {hv : Hv} {H : Nat → Nat → Bool} {N L : Nat} {o c : Nat → Nat} {S : Nat → Res} {R : Nat → Rl2} (F : Fam hv H N L o c S R) {E : List EV} (hE : ∀ e ∈ E, ∃ a, a < L ∧ e ∈ (S a).2.2.2) {a : Nat} (ha : a < L) :
    ∀ {m : Nat} {x y : Nat × Nat}, Pth hv H N E m x y → (o a ≤ x.1 ∧ x.1 < o a + c a) → Pth hv H N (S a).2.2.2 m x y ∧ o a ≤ y.1 ∧ y.1 < o a + c a := by
  intro m
  induction m with
  | zero => intro x y h hx; rw [← (show x = y from h)]; exact ⟨rfl, hx⟩
  | succ m ih =>
    intro x y h hx
    obtain ⟨d, h1, v, h2, h3⟩ := h
    obtain ⟨k1, k2⟩ := ih h1 hx
    obtain ⟨b, hb, h4⟩ := hE _ h2
    have h5 := F.er b hb _ h4
    obtain rfl := F.same ha hb k2 h5.1
    exact ⟨⟨d, k1, v, h4, h3⟩, h5.2⟩
theorem fam_alt {hv : Hv} {H : Nat → Nat → Bool} {N L : Nat} {o c : Nat → Nat} {S : Nat → Res} {R : Nat → Rl2} (F : Fam hv H N L o c S R) (s : Res) (hf : ∀ p, s.1.testBit p = true ↔ ∃ a, a < L ∧ (S a).1.testBit p = true) (hl : ∀ p, s.2.1.testBit p = true ↔ ∃ a, a < L ∧ (S a).2.1.testBit p = true)
    (hE : ∀ e, e ∈ s.2.2.2 ↔ ∃ a, a < L ∧ e ∈ (S a).2.2.2) (i j : Nat) : Acc hv H N s i j ↔ ∃ a, a < L ∧ R a i j = true := by
  constructor
  · rintro ⟨p, q, m, h1, h2, h3, h4, h5⟩
    obtain ⟨a, ha, g1⟩ := (hf p).1 h1
    obtain ⟨b, hb, g2⟩ := (hl q).1 h5
    obtain ⟨k1, k2⟩ := h4.stay F (fun e he => (hE e).1 he) ha (F.fr a ha p g1)
    obtain rfl := F.same ha hb k2 (F.lr b hb q g2)
    exact ⟨a, ha, (F.acc a ha i j).2 ⟨p, q, m, g1, h2, h3, k1, g2⟩⟩
  · rintro ⟨a, ha, h⟩
    obtain ⟨p, q, m, h1, h2, h3, h4, h5⟩ := (F.acc a ha i j).1 h
    exact ⟨p, q, m, (hf p).2 ⟨a, ha, h1⟩, h2, h3, h4.mono fun e he => (hE e).2 ⟨a, ha, he⟩, (hl q).2 ⟨a, ha, h5⟩⟩
def Pre (N : Nat) (G : Rl2) (rs : List Rl2) (i v : Nat) : Nat → Prop
  | 0 => v = i
  | a + 1 => thn N (chn N G (rs.take (a + 1))) G i v = true
abbrev rzz : Rl2 := fun _ _ => false
theorem chn_pre {N : Nat} {G : Rl2} {rs : List Rl2} (hv : ∀ r ∈ rs, ∀ i j, r i j = true → i < N) (a : Nat) (ha : a < rs.length) (i j : Nat) : chn N G (rs.take (a + 1)) i j = true ↔ ∃ v, Pre N G rs i v a ∧ (rs.getD a rzz) v j = true := by
  rw [take_snoc_r rs a ha]
  cases a with
  | zero =>
    constructor
    · intro h; exact ⟨i, rfl, h⟩
    · rintro ⟨v, h1, h2⟩
      rw [show v = i from h1] at h2
      exact h2
  | succ a =>
    rw [chn_snoc _ _ _ (fun e => by have := congrArg List.length e; rw [List.length_take, List.length_nil] at this; omega), thn_iff]
    constructor
    · rintro ⟨k, _, h1, h2⟩; exact ⟨k, h1, h2⟩
    · rintro ⟨v, h1, h2⟩; exact ⟨v, hv _ (getD_mem_r rs _ ha) v j h2, h1, h2⟩
section
variable {hv : Hv} {H : Nat → Nat → Bool} {N L : Nat} {o c : Nat → Nat} {S : Nat → Res} {R : Nat → Rl2}
theorem fam_path (F : Fam hv H N L o c S R) (E : List EV) (y : Bool) (g : VQ) (hE : ∀ e ∈ E, ∃ a, a < L ∧ (e ∈ (S a).2.2.2 ∨ (0 < a ∧ (S (a - 1)).2.1.testBit e.1 = true ∧ (S a).1.testBit e.2.1 = true ∧ e.2.2 = (y, g))))
    (rs : List Rl2) (hrs : rs.length = L) (hR : ∀ a, a < L → rs.getD a rzz = R a) (p i : Nat) (hL : 0 < L) (hp : (S 0).1.testBit p = true) (hH : H p i = true) (hi : i < N) :
    ∀ (m q j : Nat), Pth hv H N E m (p, i) (q, j) → ∀ a, a < L → o a ≤ q ∧ q < o a + c a → ∃ p' v m', (S a).1.testBit p' = true ∧ H p' v = true ∧ v < N ∧ Pth hv H N (S a).2.2.2 m' (p', v) (q, j) ∧ Pre N (gp fun k => y && hv g k) rs i v a := by
  intro m
  induction m with
  | zero =>
    intro q j h a ha hq
    have h : (p, i) = (q, j) := h
    injection h with h1 h2
    subst h1 h2
    obtain rfl := F.same ha hL hq (F.fr 0 hL p hp)
    exact ⟨p, i, 0, hp, hH, hi, rfl, rfl⟩
  | succ m ih =>
    intro q j h a ha hq
    obtain ⟨⟨d, u⟩, h1, v, h2, h3, h4, h5⟩ := h
    obtain ⟨b, hb, h6⟩ := hE _ h2
    rcases h6 with h6 | ⟨h6, h7, h8, h9⟩
    · have h7 := F.er b hb _ h6
      obtain rfl := F.same ha hb hq h7.2
      obtain ⟨p', v', m', k1, k2, k3, k4, k5⟩ := ih d u h1 a ha h7.1
      exact ⟨p', v', m' + 1, k1, k2, k3, ⟨(d, u), k4, v, h6, h3, h4, h5⟩, k5⟩
    · obtain rfl := F.same ha hb hq (F.fr b hb q h8)
      obtain ⟨b, rfl⟩ : ∃ b, a = b + 1 := ⟨a - 1, by omega⟩
      rw [Nat.add_sub_cancel] at h7
      obtain ⟨p', v', m', k1, k2, k3, k4, k5⟩ := ih d u h1 b (by omega) (F.lr b (by omega) d h7)
      have k6 := (F.acc b (by omega) v' u).2 ⟨p', d, m', k1, k2, k3, k4, h7⟩
      have hfw : ∀ r ∈ rs, ∀ i j, r i j = true → i < N := fun r hr i j hij => by
        obtain ⟨x, hx, e⟩ := List.mem_iff_getElem.1 hr
        have e2 := hR x (by omega)
        rw [List.getD_eq_getElem?_getD, List.getElem?_eq_getElem hx, Option.getD_some, e] at e2
        rw [e2] at hij
        obtain ⟨_, _, _, _, _, hh, _⟩ := (F.acc x (by omega) i j).1 hij
        exact hh
      have k7 : chn N (gp fun k => y && hv g k) (rs.take (b + 1)) i u = true := (chn_pre hfw b (by omega) i u).2 ⟨v', k5, by rw [hR b (by omega)]; exact k6⟩
      have h9 : v = (y, g) := h9
      subst h9
      refine ⟨q, j, 0, h8, h4, h3, rfl, ?_⟩
      show thn N _ _ i j = true
      exact thn_iff.2 ⟨u, by have := (gp_iff.1 h5).1; simp only at this; omega, k7, h5⟩
theorem fam_ch (F : Fam hv H N L o c S R) (s : Res) (y : Bool) (g : VQ) (W : Nat → Bool) (hL : 0 < L) (hf : ∀ p, s.1.testBit p = true ↔ (S 0).1.testBit p = true) (hl : ∀ p, s.2.1.testBit p = true ↔ ∃ a, a < L ∧ W a = true ∧ (S a).2.1.testBit p = true)
    (hE : ∀ e, e ∈ s.2.2.2 ↔ ∃ a, a < L ∧ (e ∈ (S a).2.2.2 ∨ (0 < a ∧ (S (a - 1)).2.1.testBit e.1 = true ∧ (S a).1.testBit e.2.1 = true ∧ e.2.2 = (y, g))))
    (rs : List Rl2) (hrs : rs.length = L) (hR : ∀ a, a < L → rs.getD a rzz = R a) (i j : Nat) : Acc hv H N s i j ↔ ∃ a, a < L ∧ W a = true ∧ chn N (gp fun k => y && hv g k) (rs.take (a + 1)) i j = true := by
  have hfw : ∀ r ∈ rs, ∀ i j, r i j = true → i < N := fun r hr i j hij => by
    obtain ⟨x, hx, e⟩ := List.mem_iff_getElem.1 hr
    have e2 := hR x (by omega)
    rw [List.getD_eq_getElem?_getD, List.getElem?_eq_getElem hx, Option.getD_some, e] at e2
    rw [e2] at hij
    obtain ⟨_, _, _, _, _, hh, _⟩ := (F.acc x (by omega) i j).1 hij
    exact hh
  constructor
  · rintro ⟨p, q, m, h1, h2, h3, h4, h5⟩
    obtain ⟨a, ha, w, g2⟩ := (hl q).1 h5
    obtain ⟨p', v, m', k1, k2, k3, k4, k5⟩ := fam_path F s.2.2.2 y g (fun e he => (hE e).1 he) rs hrs hR p i hL ((hf p).1 h1) h2 h3 m q j h4 a ha (F.lr a ha q g2)
    exact ⟨a, ha, w, (chn_pre hfw a (by omega) i j).2 ⟨v, k5, by rw [hR a ha]; exact (F.acc a ha v j).2 ⟨p', q, m', k1, k2, k3, k4, g2⟩⟩⟩
  · rintro ⟨a, ha, w, h⟩
    have key : ∀ a, a < L → ∀ j, chn N (gp fun k => y && hv g k) (rs.take (a + 1)) i j = true → ∃ p q m, (S 0).1.testBit p = true ∧ H p i = true ∧ i < N ∧ Pth hv H N s.2.2.2 m (p, i) (q, j) ∧ (S a).2.1.testBit q = true := by
      intro a
      induction a with
      | zero =>
        intro ha j h
        obtain ⟨v, h1, h2⟩ := (chn_pre hfw 0 (by omega) i j).1 h
        rw [show v = i from h1, hR 0 ha] at h2
        obtain ⟨p, q, m, k1, k2, k3, k4, k5⟩ := (F.acc 0 ha i j).1 h2
        exact ⟨p, q, m, k1, k2, k3, k4.mono fun e he => (hE e).2 ⟨0, ha, .inl he⟩, k5⟩
      | succ a ih =>
        intro ha j h
        obtain ⟨v, h1, h2⟩ := (chn_pre hfw (a + 1) (by omega) i j).1 h
        obtain ⟨u, hu, h3, h4⟩ := thn_iff.1 (show thn N _ _ i v = true from h1)
        obtain ⟨p, q, m, k1, k2, k3, k4, k5⟩ := ih (by omega) u h3
        rw [hR (a + 1) ha] at h2
        obtain ⟨p', q', m', r1, r2, r3, r4, r5⟩ := (F.acc (a + 1) ha v j).1 h2
        have st : Stp hv H N s.2.2.2 (q, u) (p', v) := ⟨(y, g), (hE _).2 ⟨a + 1, ha, .inr ⟨Nat.succ_pos _, by rw [Nat.add_sub_cancel]; exact k5, r1, rfl⟩⟩, r3, r2, h4⟩
        have r4' : Pth hv H N s.2.2.2 m' (p', v) (q', j) := r4.mono fun e he => (hE e).2 ⟨a + 1, ha, .inl he⟩
        exact ⟨p, q', m + 1 + m', k1, k2, k3, Pth.app (m := m + 1) ⟨(q, u), k4, st⟩ r4', r5⟩
    obtain ⟨p, q, m, h1, h2, h3, h4, h5⟩ := key a ha j h
    exact ⟨p, q, m, (hf p).2 h1, h2, h3, h4, (hl q).2 ⟨a, ha, w, h5⟩⟩
end
theorem bs_fst (c : List Nd → Nat) (ps : List (List Nd)) : ∀ n j, j < ps.length → ((bs c n ps).getD j d0).1 = ps.getD j [] := by
  induction ps with
  | nil => intro n j hj; simp at hj
  | cons p ps ih =>
    intro n j hj
    cases j with
    | zero => simp [bs]
    | succ j => rw [bs, List.getD_cons_succ, List.getD_cons_succ]; exact ih _ j (by simpa using hj)
theorem bs_sep (c : List Nd → Nat) (ps : List (List Nd)) : ∀ n a b, a < b → b < ps.length → ((bs c n ps).getD a d0).2 + c ((bs c n ps).getD a d0).1 ≤ ((bs c n ps).getD b d0).2 := by
  induction ps with
  | nil => intro n a b _ hb; simp at hb
  | cons p ps ih =>
    intro n a b hab hb
    obtain ⟨b, rfl⟩ : ∃ b', b = b' + 1 := ⟨b - 1, by omega⟩
    have hb : b < ps.length := by simpa using hb
    rw [bs, List.getD_cons_succ]
    cases a with
    | zero => rw [List.getD_cons_zero]; exact (bs_get c ps (n + c p) b hb).2.1
    | succ a => rw [List.getD_cons_succ]; exact ih _ a b (by omega) hb
theorem bs_getq (c : List Nd → Nat) (g : List Nd → List VQ) (d : VQ) (ps : List (List Nd)) (hg : ∀ p ∈ ps, (g p).length = c p) : ∀ n a, a < ps.length → ∀ x, x < c ((bs c n ps).getD a d0).1 → (ps.flatMap g).getD (((bs c n ps).getD a d0).2 - n + x) d = (g ((bs c n ps).getD a d0).1).getD x d := by
  induction ps with
  | nil => intro n a ha; simp at ha
  | cons p ps ih =>
    intro n a ha x hx
    have hp := hg p (List.mem_cons_self ..)
    cases a with
    | zero =>
      rw [bs, List.getD_cons_zero] at hx ⊢
      simp only at hx ⊢
      rw [Nat.sub_self, Nat.zero_add, List.flatMap_cons, List.getD_eq_getElem?_getD, List.getElem?_append_left (by omega), ← List.getD_eq_getElem?_getD]
    | succ a =>
      have ha : a < ps.length := by simpa using ha
      rw [bs, List.getD_cons_succ] at hx ⊢
      have h1 := (bs_get c ps (n + c p) a ha).2.1
      have e := ih (fun q hq => hg q (List.mem_cons_of_mem _ hq)) (n + c p) a ha x hx
      rw [← e, List.flatMap_cons, List.getD_eq_getElem?_getD, List.getElem?_append_right (by omega), ← List.getD_eq_getElem?_getD]
      congr 1
      omega
theorem rel_chain (h : Hq) (N k : Nat) (l : List Nd) (hf : fmd (k + 1) l = true) (h1 : (l.headD nz).k ≠ 1) (h3 : (l.headD nz).k ≠ 3) (i j : Nat) :
    rel h N (k + 1) l i j = true ↔ ∃ a, a < (wps l).length ∧ wend l (wps l).length a = true ∧ chn N (gp (gd h (l.headD nz))) (((wps l).map (rel h N k)).take (a + 1)) i j = true := by
  unfold fmd at hf
  rw [Bool.and_eq_true] at hf
  have hk := kd_k hf.2
  rw [rel_succ]
  rcases hk with hk | hk | hk | hk
  · exact absurd hk h1
  · have hw : wps l = pts l := by unfold wps; rw [if_neg (by omega)]
    have hm := kd_m2 hf.2 (.inl hk)
    rw [if_pos hk, hw]
    have hwd : ∀ a, wend l (pts l).length a = decide (a + 1 = (pts l).length) := fun a => by
      unfold wend
      rw [decide_eq_false (by omega : ¬ (l.headD nz).k = 3), decide_eq_false (by omega : ¬ (l.headD nz).k = 4)]
      simp
    constructor
    · intro hc
      refine ⟨(pts l).length - 1, by omega, by rw [hwd, decide_eq_true_eq]; omega, ?_⟩
      rw [List.take_of_length_le (by rw [List.length_map]; omega)]
      exact hc
    · rintro ⟨a, ha, hw, hc⟩
      rw [hwd, decide_eq_true_eq] at hw
      rw [List.take_of_length_le (by rw [List.length_map]; omega)] at hc
      exact hc
  · exact absurd hk h3
  · obtain ⟨m1, m2, m3, m4⟩ := kd_rep hf.2 hk
    rw [if_neg (by omega), if_neg (by omega), if_pos hk]
    have hw : wps l = (List.replicate (l.headD nz).hi.toNat (pts l)).flatten := by unfold wps; rw [if_pos hk]
    have hrs : reps (l.headD nz).hi.toNat ((pts l).map (rel h N k)) = (wps l).map (rel h N k) := by
      rw [hw, List.map_flatten, List.map_replicate]
      rfl
    have hlen : (wps l).length = (l.headD nz).hi.toNat := by
      rw [hw, List.length_flatten, List.map_replicate, List.sum_replicate_nat, m1]
      omega
    rw [hrs]
    unfold anyc
    rw [List.any_eq_true, List.length_map]
    have hwd : ∀ a, a < (wps l).length → wend l (wps l).length a = decide ((l.headD nz).lo.toNat ≤ a + 1) := fun a ha => by
      unfold wend
      rw [decide_eq_false (by omega : ¬ (l.headD nz).k = 3), decide_eq_true hk, Bool.false_or, Bool.true_and, Bool.eq_iff_iff, Bool.or_eq_true, decide_eq_true_eq, decide_eq_true_eq, decide_eq_true_eq]
      omega
    constructor
    · rintro ⟨a, ha, hc⟩
      rw [Bool.and_eq_true] at hc
      have ha := List.mem_range.1 ha
      exact ⟨a, ha, by rw [hwd a ha]; exact hc.1, hc.2⟩
    · rintro ⟨a, ha, hw, hc⟩
      rw [hwd a ha] at hw
      exact ⟨a, List.mem_range.2 ha, by rw [hw, hc]; rfl⟩
abbrev vqz : VQ := (false, 0, [])
theorem acc_rel (h : Hq) (hv : Hv) (hh : ∀ q i, h q i = hv (vq q) i) (N k : Nat) : ∀ l : List Nd, fmd k l = true → frn l = l → ∀ n, n + cnt k l ≤ 32 → ∀ H : Nat → Nat → Bool, (∀ p, p < cnt k l → ∀ i, H (n + p) i = hv ((wq k l).getD p vqz) i) → ∀ i j, rel h N k l i j = true ↔ Acc hv H N (au k l n) i j := by
  induction k with
  | zero => intro l h0; cases h0
  | succ k ih =>
    intro l hf hfr n hn H hH i j
    rcases kw_of hf with ⟨h1, _⟩ | ⟨h1, K⟩
    · have hc : cnt (k + 1) l = 1 := by show (if (l.headD nz).k = 1 then 1 else _) = _; rw [if_pos h1]
      have hq : wq (k + 1) l = [vq (l.headD nz).p] := by unfold wq; rw [if_pos h1]
      have h0 := hH 0 (by omega)
      rw [hq] at h0
      simp only [Nat.add_zero, List.getD_cons_zero] at h0
      rw [rel_succ, if_neg (by omega), if_neg (by omega), if_neg (by omega)]
      unfold au
      rw [if_neg (by omega), if_neg (by omega), if_neg (by omega)]
      rw [Bool.and_eq_true, Bool.and_eq_true, decide_eq_true_eq, decide_eq_true_eq]
      constructor
      · rintro ⟨⟨rfl, h3⟩, h4⟩
        exact ⟨n, n, 0, by simp, by rw [h0, ← hh]; exact h4, h3, rfl, by simp⟩
      · rintro ⟨p, q, m, g1, g2, g3, g4, g5⟩
        simp only [Nat.testBit_two_pow, decide_eq_true_eq] at g1 g5
        subst g1 g5
        cases m with
        | zero =>
          have g4 : (n, i) = (n, j) := g4
          injection g4 with _ g4
          exact ⟨⟨g4, g3⟩, by rw [hh, ← h0]; exact g2⟩
        | succ m =>
          obtain ⟨_, _, _, g, _⟩ := g4
          simp at g
    · have hN := K.cn
      have hlen : ∀ p ∈ wps l, ∀ n, (au k p n).2.2.1.length = cnt k p := K.len
      have hql : ∀ p ∈ wps l, (wq k p).length = cnt k p := fun p hp => by rw [← wq_au k p (K.sub p hp).1 (K.sub p hp).2 0]; exact hlen p hp 0
      have hwq : wq (k + 1) l = (wps l).flatMap (wq k) := by unfold wq; rw [if_neg h1]
      have hgd : ∀ x, gd h (l.headD nz) x = ((l.headD nz).y && hv (vq (l.headD nz).g) x) := fun x => by unfold gd; rw [hh]
      have F : Fam hv H N (wps l).length (fun a => ((bs (cnt k) n (wps l)).getD a d0).2) (fun a => cnt k ((bs (cnt k) n (wps l)).getD a d0).1) (fun a => au k ((bs (cnt k) n (wps l)).getD a d0).1 ((bs (cnt k) n (wps l)).getD a d0).2) (fun a => rel h N k ((wps l).getD a [])) := by
        refine ⟨fun a b hab hb => bs_sep _ _ _ a b hab hb, fun a ha p hp => ?_, fun a ha p hp => ?_, fun a ha e he => ?_, fun a ha i j => ?_⟩
        all_goals obtain ⟨g1, g2, g3⟩ := bs_get (cnt k) (wps l) n a ha
        · have := (au_ok k _ (K.sub _ g1).1 (K.sub _ g1).2 ((bs (cnt k) n (wps l)).getD a d0).2).fr p hp
          rw [hlen _ g1] at this
          exact this
        · have := (au_ok k _ (K.sub _ g1).1 (K.sub _ g1).2 ((bs (cnt k) n (wps l)).getD a d0).2).lr p hp
          rw [hlen _ g1] at this
          exact this
        · have := (au_ok k _ (K.sub _ g1).1 (K.sub _ g1).2 ((bs (cnt k) n (wps l)).getD a d0).2).er e he
          rw [hlen _ g1] at this
          omega
        · have e := bs_fst (cnt k) (wps l) n a ha
          show rel h N k ((wps l).getD a []) i j = true ↔ _
          rw [← e]
          refine ih _ (K.sub _ g1).1 (K.sub _ g1).2 _ (by omega) H (fun p hp i => ?_) i j
          rw [← bs_getq (cnt k) (wq k) vqz (wps l) hql n a ha p hp, ← hwq, ← hH _ (by omega)]
          congr 1
          omega
      rcases K.aut n with ⟨h3, e⟩ | ⟨h3, least, e, hw⟩
      · have hwp : wps l = pts l := by unfold wps; rw [if_neg (by omega)]
        rw [fam_alt F (au (k + 1) l n) (fun p => ?_) (fun p => ?_) (fun e' => ?_) i j]
        · rw [rel_succ, if_neg (by omega), if_pos h3]
          unfold altr
          rw [List.any_map, List.any_eq_true, ← hwp]
          constructor
          · rintro ⟨p, hp, hr⟩
            obtain ⟨a, ha, e⟩ := List.mem_iff_getElem.1 hp
            exact ⟨a, ha, by rw [List.getD_eq_getElem?_getD, List.getElem?_eq_getElem ha, Option.getD_some, e]; exact hr⟩
          · rintro ⟨a, ha, hr⟩
            rw [List.getD_eq_getElem?_getD, List.getElem?_eq_getElem ha, Option.getD_some] at hr
            exact ⟨_, List.getElem_mem ha, hr⟩
        · rw [e]
          unfold ei
          rw [ei_fi (au k) (cnt k) n p (wps l) hlen]
          simp only [List.length_nil, Nat.add_zero, Nat.zero_testBit, Bool.false_or, List.any_eq_true, List.mem_range, bs_len]
        · rw [e]
          unfold ei
          rw [ei_la (au k) (cnt k) n p (wps l) hlen]
          simp only [List.length_nil, Nat.add_zero, Nat.zero_testBit, Bool.false_or, List.any_eq_true, List.mem_range, bs_len]
        · rw [e]
          unfold ei
          rw [ei_E (au k) (cnt k) n e' (wps l) hlen]
          simp only [List.length_nil, Nat.add_zero, List.not_mem_nil, false_or, bs_len]
      · have hL : 0 < (wps l).length := List.length_pos_iff.2 K.ne
        have hg : gp (gd h (l.headD nz)) = gp (fun x => (l.headD nz).y && hv (vq (l.headD nz).g) x) := congrArg gp (funext hgd)
        rw [rel_chain h N k l hf h1 h3, hg]
        refine (fam_ch F (au (k + 1) l n) (l.headD nz).y (vq (l.headD nz).g) (wend l (wps l).length) hL (fun p => ?_) (fun p => ?_) (fun e' => ?_) ((wps l).map (rel h N k)) (List.length_map ..) (fun a ha => ?_) i j).symm
        · rw [e]
          show (chf (au k) n _ _ _ _).fi.testBit p = true ↔ _
          unfold chf
          obtain ⟨p0, ps, hps⟩ := List.exists_cons_of_ne_nil K.ne
          rw [hps, List.foldl_cons, ch_fi _ _ _ _ _ _ _ (by show 0 < 0 + 1; omega)]
          simp [cst, cs0, bs]
        · rw [e]
          show (chf (au k) n _ _ _ _).la.testBit p = true ↔ _
          unfold chf
          rw [ch_la (au k) (cnt k) n p _ _ _ (wps l) hlen]
          simp only [cs0, List.length_nil, Nat.add_zero, Nat.zero_testBit, Bool.false_or, Nat.zero_add, List.any_eq_true, List.mem_range, bs_len, Bool.and_eq_true]
          constructor
          · rintro ⟨a, ha, h2, h3⟩; exact ⟨a, ha, by rw [hw a ha]; exact h2, h3⟩
          · rintro ⟨a, ha, h2, h3⟩; exact ⟨a, ha, by rw [hw a ha] at h2; exact h2, h3⟩
        · rw [e]
          show e' ∈ (chf (au k) n _ _ _ _).E ↔ _
          unfold chf
          rw [ch_E (au k) (cnt k) n _ _ _ _ (wps l) hlen]
          simp only [cs0, List.length_nil, Nat.add_zero, List.not_mem_nil, false_or, bs_len]
          constructor
          · rintro ⟨a, ha, h2 | h2⟩
            · exact ⟨a, ha, .inl h2⟩
            · by_cases a0 : a = 0
              · rw [if_pos a0, jn_zero] at h2; simp at h2
              · rw [if_neg a0] at h2
                obtain ⟨j1, j2, j3⟩ := jn_mem.1 h2
                exact ⟨a, ha, .inr ⟨by omega, (btz_mem.1 j1).2, (btz_mem.1 j2).2, j3⟩⟩
          · rintro ⟨a, ha, h2 | ⟨h2, h3, h4, h5⟩⟩
            · exact ⟨a, ha, .inl h2⟩
            · refine ⟨a, ha, .inr ?_⟩
              rw [if_neg (by omega)]
              have r1 := F.lr (a - 1) (by omega) _ h3
              have r2 := F.fr a ha _ h4
              obtain ⟨_, _, g3⟩ := bs_get (cnt k) (wps l) n a ha
              obtain ⟨_, _, g4⟩ := bs_get (cnt k) (wps l) n (a - 1) (by omega)
              exact jn_mem.2 ⟨btz_mem.2 ⟨by omega, h3⟩, btz_mem.2 ⟨by omega, h4⟩, h5⟩
        · simp [List.getD_eq_getElem?_getD, List.getElem?_eq_getElem ha]
end Go.Proofs.YtpnllbojifnopaaGreatDoor
namespace Go.Proofs.YtpnllbojifnopaaGreatDoor
open Go Go.RowKit Pk Rl
set_option maxRecDepth 20000
def AT (hv : Hv) (H : Nat → Nat → Bool) (N : Nat) (s : Res) (i q j : Nat) : Prop := ∃ p m, s.1.testBit p = true ∧ H p i = true ∧ i < N ∧ Pth hv H N s.2.2.2 m (p, i) (q, j)
def Lk (hv : Hv) (H : Nat → Nat → Bool) (N : Nat) (v : Bool × VQ) (q j' j : Nat) : Prop := j < N ∧ H q j = true ∧ gp (fun k => v.1 && hv v.2 k) j' j = true
section
variable {hv : Hv} {H : Nat → Nat → Bool} {N : Nat} {s : Res} {i : Nat}
theorem acc_at {j : Nat} : Acc hv H N s i j ↔ ∃ q, AT hv H N s i q j ∧ s.2.1.testBit q = true := by
  constructor
  · rintro ⟨p, q, m, h1, h2, h3, h4, h5⟩; exact ⟨q, ⟨p, m, h1, h2, h3, h4⟩, h5⟩
  · rintro ⟨q, ⟨p, m, h1, h2, h3, h4⟩, h5⟩; exact ⟨p, q, m, h1, h2, h3, h4, h5⟩
theorem Pth.ge {E : List EV} : ∀ {m : Nat} {a b : Nat × Nat}, Pth hv H N E m a b → a.2 ≤ b.2 := by
  intro m
  induction m with
  | zero => intro a b h; rw [show a = b from h]; exact Nat.le_refl _
  | succ m ih =>
    intro a b h
    obtain ⟨c, h1, v, _, _, _, h2⟩ := h
    have := ih h1
    have := (gp_iff.1 h2).1
    omega
theorem AT.ge {q j : Nat} (h : AT hv H N s i q j) : i ≤ j := by
  obtain ⟨p, m, _, _, _, h4⟩ := h
  exact h4.ge
theorem at_iff {q j : Nat} : AT hv H N s i q j ↔ (j = i ∧ s.1.testBit q = true ∧ H q i = true ∧ i < N) ∨ ∃ f j' v, ((f, q, v) : EV) ∈ s.2.2.2 ∧ AT hv H N s i f j' ∧ Lk hv H N v q j' j := by
  constructor
  · rintro ⟨p, m, h1, h2, h3, h4⟩
    cases m with
    | zero =>
      have h4 : (p, i) = (q, j) := h4
      injection h4 with e1 e2
      subst e1 e2
      exact .inl ⟨rfl, h1, h2, h3⟩
    | succ m =>
      obtain ⟨⟨f, j'⟩, h5, v, h6, h7, h8, h9⟩ := h4
      exact .inr ⟨f, j', v, h6, ⟨p, m, h1, h2, h3, h5⟩, h7, h8, h9⟩
  · rintro (⟨rfl, h1, h2, h3⟩ | ⟨f, j', v, h6, ⟨p, m, h1, h2, h3, h5⟩, h7, h8, h9⟩)
    · exact ⟨q, 0, h1, h2, h3, rfl⟩
    · exact ⟨p, m + 1, h1, h2, h3, (f, j'), h5, v, h6, h7, h8, h9⟩
def Rch (hv : Hv) (H : Nat → Nat → Bool) (N : Nat) (s : Res) (i j e k j2 q : Nat) : Prop :=
  (j2 = i ∧ s.1.testBit q = true ∧ H q i = true) ∨ ∃ f j' v x, s.2.2.2[x]? = some ((f, q, v) : EV) ∧ AT hv H N s i f j' ∧ Lk hv H N v q j' j2 ∧ (j' < j ∨ j' = j ∧ (x < e ∨ x = e ∧ j2 < k))
theorem rch_at {j e k j2 q : Nat} (hi : i < N) (h : j2 ≤ j) : Rch hv H N s i j e k j2 q ↔ AT hv H N s i q j2 := by
  rw [at_iff]
  constructor
  · rintro (⟨h1, h2, h3⟩ | ⟨f, j', v, x, h1, h2, h3, h4⟩)
    · exact .inl ⟨h1, h2, h3, hi⟩
    · exact .inr ⟨f, j', v, List.mem_of_getElem? h1, h2, h3⟩
  · rintro (⟨h1, h2, h3, _⟩ | ⟨f, j', v, h1, h2, h3⟩)
    · exact .inl ⟨h1, h2, h3⟩
    · obtain ⟨x, hx⟩ := List.mem_iff_getElem?.1 h1
      have := (gp_iff.1 h3.2.2).1
      exact .inr ⟨f, j', v, x, hx, h2, h3, .inl (by omega)⟩
theorem rch_start {j2 q : Nat} : Rch hv H N s i i 0 0 j2 q ↔ (j2 = i ∧ s.1.testBit q = true ∧ H q i = true) := by
  constructor
  · rintro (h | ⟨f, j', v, x, h1, h2, h3, h4⟩)
    · exact h
    · have := h2.ge
      omega
  · exact .inl
theorem rch_turn {j j2 q : Nat} : Rch hv H N s i j s.2.2.2.length 0 j2 q ↔ Rch hv H N s i (j + 1) 0 0 j2 q := by
  constructor
  · rintro (h | ⟨f, j', v, x, h1, h2, h3, h4⟩)
    · exact .inl h
    · exact .inr ⟨f, j', v, x, h1, h2, h3, .inl (by omega)⟩
  · rintro (h | ⟨f, j', v, x, h1, h2, h3, h4⟩)
    · exact .inl h
    · have hx : x < s.2.2.2.length := by
        rcases Nat.lt_or_ge x s.2.2.2.length with h | h
        · exact h
        · rw [List.getElem?_eq_none h] at h1; cases h1
      refine .inr ⟨f, j', v, x, h1, h2, h3, ?_⟩
      rcases Nat.lt_or_ge j' j with c | c
      · exact .inl c
      · exact .inr ⟨by omega, .inl hx⟩
theorem rch_skip {j e j2 q f t : Nat} {v : Bool × VQ} (he : s.2.2.2[e]? = some ((f, t, v) : EV)) (hn : ¬ AT hv H N s i f j) : Rch hv H N s i j e 0 j2 q ↔ Rch hv H N s i j (e + 1) 0 j2 q := by
  constructor
  · rintro (h | ⟨f', j', v', x, h1, h2, h3, h4⟩)
    · exact .inl h
    · exact .inr ⟨f', j', v', x, h1, h2, h3, by omega⟩
  · rintro (h | ⟨f', j', v', x, h1, h2, h3, h4⟩)
    · exact .inl h
    · refine .inr ⟨f', j', v', x, h1, h2, h3, ?_⟩
      rcases h4 with h4 | ⟨h4, h5⟩
      · exact .inl h4
      · by_cases c : x = e
        · subst c
          rw [he] at h1
          injection h1 with h1
          injection h1 with h1 _
          subst h1 h4
          exact absurd h2 hn
        · exact .inr ⟨h4, by omega⟩
theorem rch_begin {j e j2 q : Nat} : Rch hv H N s i j e 0 j2 q ↔ Rch hv H N s i j e (j + 1) j2 q := by
  constructor
  · rintro (h | ⟨f', j', v', x, h1, h2, h3, h4⟩)
    · exact .inl h
    · exact .inr ⟨f', j', v', x, h1, h2, h3, by omega⟩
  · rintro (h | ⟨f', j', v', x, h1, h2, h3, h4⟩)
    · exact .inl h
    · have := (gp_iff.1 h3.2.2).1
      exact .inr ⟨f', j', v', x, h1, h2, h3, by omega⟩
theorem rch_step {j e k j2 q f t : Nat} {v : Bool × VQ} (he : s.2.2.2[e]? = some ((f, t, v) : EV)) (ha : AT hv H N s i f j) (hj : j < k) (hk : k < N) (hg : ∀ m, j < m → m < k → (v.1 && hv v.2 m) = false) :
    Rch hv H N s i j e (k + 1) j2 q ↔ (Rch hv H N s i j e k j2 q ∨ (j2 = k ∧ q = t ∧ H t k = true)) := by
  constructor
  · rintro (h | ⟨f', j', v', x, h1, h2, h3, h4⟩)
    · exact .inl (.inl h)
    · by_cases c : j' = j ∧ x = e ∧ j2 = k
      · obtain ⟨rfl, rfl, rfl⟩ := c
        rw [he] at h1
        injection h1 with h1
        injection h1 with _ h1
        injection h1 with h1 _
        subst h1
        exact .inr ⟨rfl, rfl, h3.2.1⟩
      · exact .inl (.inr ⟨f', j', v', x, h1, h2, h3, by omega⟩)
  · rintro ((h | ⟨f', j', v', x, h1, h2, h3, h4⟩) | ⟨rfl, rfl, h⟩)
    · exact .inl h
    · exact .inr ⟨f', j', v', x, h1, h2, h3, by omega⟩
    · exact .inr ⟨f, j, v, e, he, ha, ⟨hk, h, gp_iff.2 ⟨hj, hg⟩⟩, by omega⟩
theorem rch_break {j e k j2 q f t : Nat} {v : Bool × VQ} (he : s.2.2.2[e]? = some ((f, t, v) : EV)) (hj : j < k) (hb : (v.1 && hv v.2 k) = true) : Rch hv H N s i j e (k + 1) j2 q ↔ Rch hv H N s i j (e + 1) 0 j2 q := by
  constructor
  · rintro (h | ⟨f', j', v', x, h1, h2, h3, h4⟩)
    · exact .inl h
    · exact .inr ⟨f', j', v', x, h1, h2, h3, by omega⟩
  · rintro (h | ⟨f', j', v', x, h1, h2, h3, h4⟩)
    · exact .inl h
    · refine .inr ⟨f', j', v', x, h1, h2, h3, ?_⟩
      rcases h4 with h4 | ⟨h4, h5⟩
      · exact .inl h4
      · refine .inr ⟨h4, ?_⟩
        by_cases c : x = e
        · subst c h4
          rw [he] at h1
          injection h1 with h1
          injection h1 with _ h1
          injection h1 with _ h1
          subst h1
          refine .inr ⟨rfl, ?_⟩
          rcases Nat.lt_or_ge j2 (k + 1) with d | d
          · exact d
          · have := (gp_iff.1 h3.2.2).2 k hj (by omega)
            rw [hb] at this
            cases this
        · exact .inl (by omega)
theorem rch_end {j e j2 q : Nat} : Rch hv H N s i j e N j2 q ↔ Rch hv H N s i j (e + 1) 0 j2 q := by
  constructor
  · rintro (h | ⟨f', j', v', x, h1, h2, h3, h4⟩)
    · exact .inl h
    · exact .inr ⟨f', j', v', x, h1, h2, h3, by omega⟩
  · rintro (h | ⟨f', j', v', x, h1, h2, h3, h4⟩)
    · exact .inl h
    · have := h3.1
      exact .inr ⟨f', j', v', x, h1, h2, h3, by omega⟩
end
end Go.Proofs.YtpnllbojifnopaaGreatDoor
