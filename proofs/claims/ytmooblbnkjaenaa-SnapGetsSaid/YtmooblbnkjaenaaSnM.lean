/- States as bytes, by value: how a state is written, how bytes are read, there and back. -/
import Derived.Test.YtmooblbnkjaenaaLbGetSays
namespace Go.Proofs.Ytmooblbnkjaenaa
open Go Go.RowKit Pk
set_option maxRecDepth 20000

structure Ru where
  s : Nat
  t : Nat
  x : Nat
abbrev rz : Ru := ⟨0, 0, 0⟩
structure Okr (r : Ru) : Prop where
  s : r.s < 18446744073709551616
  t : r.t < 18446744073709551616
  x : r.x < 18446744073709551616
/- Starts rise, Ats don't fall, in the first k -/
def ord (L : List Ru) (k : Nat) : Bool := decide (∀ i, i < k → i = 0 ∨ ((L.getD (i - 1) rz).s < (L.getD i rz).s ∧ (L.getD (i - 1) rz).t ≤ (L.getD i rz).t))
theorem ord_iff (L : List Ru) (k : Nat) : ord L k = true ↔ ∀ i, i < k → i = 0 ∨ ((L.getD (i - 1) rz).s < (L.getD i rz).s ∧ (L.getD (i - 1) rz).t ≤ (L.getD i rz).t) := by unfold ord; exact decide_eq_true_iff
theorem ord_snoc (L : List Ru) (k : Nat) (h : ord L k = true) (h2 : k = 0 ∨ ((L.getD (k - 1) rz).s < (L.getD k rz).s ∧ (L.getD (k - 1) rz).t ≤ (L.getD k rz).t)) : ord L (k + 1) = true := by
  rw [ord_iff] at h ⊢
  intro i hi
  rcases Nat.lt_or_ge i k with c | c
  · exact h i c
  · obtain rfl : i = k := by omega
    exact h2
theorem ord_bad (L : List Ru) (k n : Nat) (hk : k < n) (h0 : k ≠ 0) (h2 : ¬ ((L.getD (k - 1) rz).s < (L.getD k rz).s ∧ (L.getD (k - 1) rz).t ≤ (L.getD k rz).t)) : ord L n = false := by
  rcases e : ord L n with _ | _
  · rfl
  · rw [ord_iff] at e
    rcases e k hk with c | c
    · exact absurd c h0
    · exact absurd c h2
/- it is written -/
def wr (next last : Nat) (fl : Bool) (fat : Nat) (L : List Ru) : Bool := decide (next ≤ 1099511627776) && decide (last ≤ 1099511627776) && decide (L.length ≤ 64) && (if fl then decide (L.length = 0) else decide (fat = 0) && ord L L.length)
theorem wr_iff (next last : Nat) (fl : Bool) (fat : Nat) (L : List Ru) : wr next last fl fat L = true ↔ next ≤ 1099511627776 ∧ last ≤ 1099511627776 ∧ L.length ≤ 64 ∧ (fl = true → L = []) ∧ (fl = false → fat = 0 ∧ ord L L.length = true) := by
  unfold wr
  rcases fl with _ | _ <;> simp [and_assoc]
/- the writing -/
def wrs : Ru → List Ru → List Int
  | _, [] => []
  | p, r :: L => wrt (r.s - p.s) ++ (wrt (r.t - p.t) ++ (wrt r.x ++ wrs r L))
def wst (next last : Nat) (fl : Bool) (fat : Nat) (L : List Ru) : List Int := wrt next ++ (wrt last ++ (if fl then 1 :: wrt fat else 0 :: (wrt L.length ++ wrs rz L)))
theorem wrs_len (p : Ru) (L : List Ru) (h : ∀ r ∈ L, Okr r) : (wrs p L).length ≤ 30 * L.length := by
  induction L generalizing p with
  | nil => simp [wrs]
  | cons r L ih =>
    have hr := h r (by simp)
    have := ih r (fun x hx => h x (by simp [hx]))
    have h1 := wrt_ten (r.s - p.s) (by have := hr.s; omega)
    have h2 := wrt_ten (r.t - p.t) (by have := hr.t; omega)
    have h3 := wrt_ten r.x hr.x
    simp only [wrs, List.length_append, List.length_cons]
    omega
def pv (p : Ru) (L : List Ru) (i : Nat) : Ru := if i = 0 then p else L.getD (i - 1) rz
theorem wrs_take (p : Ru) (L : List Ru) (i : Nat) (hi : i < L.length) : wrs p (L.take (i + 1)) = wrs p (L.take i) ++ (wrt ((L.getD i rz).s - (pv p L i).s) ++ (wrt ((L.getD i rz).t - (pv p L i).t) ++ wrt (L.getD i rz).x)) := by
  induction L generalizing p i with
  | nil => simp at hi
  | cons a L ih =>
    rcases i with _ | i
    · simp [wrs, pv]
    · have := ih a i (by simpa using hi)
      rw [List.take_succ_cons, List.take_succ_cons]
      simp only [wrs]
      rw [this]
      have e : pv p (a :: L) (i + 1) = pv a L i := by
        unfold pv
        rcases i with _ | i <;> simp
      rw [e]
      simp [List.append_assoc]
theorem wrs_range (p : Ru) (L : List Ru) : ∀ c ∈ wrs p L, 0 ≤ c ∧ c < 256 := by
  induction L generalizing p with
  | nil => intro c hc; simp [wrs] at hc
  | cons r L ih => exact range_app (wrt_range _) (range_app (wrt_range _) (range_app (wrt_range _) (ih r)))
theorem wst_range (next last : Nat) (fl : Bool) (fat : Nat) (L : List Ru) : ∀ c ∈ wst next last fl fat L, 0 ≤ c ∧ c < 256 := by
  unfold wst
  refine range_app (wrt_range _) (range_app (wrt_range _) ?_)
  rcases fl with _ | _
  · exact range_app (l := [0]) (by simp) (range_app (wrt_range _) (wrs_range _ _))
  · exact range_app (l := [1]) (by simp) (wrt_range _)
theorem wst_len (next last : Nat) (fl : Bool) (fat : Nat) (L : List Ru) (h : ∀ r ∈ L, Okr r) (h1 : next < 18446744073709551616) (h2 : last < 18446744073709551616) (h3 : fat < 18446744073709551616) (h4 : L.length ≤ 64) : (wst next last fl fat L).length ≤ 2000 := by
  have a1 := wrt_ten next h1
  have a2 := wrt_ten last h2
  have a3 := wrt_ten fat h3
  have a4 := wrt_ten L.length (by omega)
  have a5 := wrs_len rz L h
  unfold wst
  rcases fl with _ | _ <;> simp only [List.length_append, List.length_cons, if_pos, if_neg, Bool.false_eq_true, not_false_eq_true] <;> omega
/- reading: where, and the error -/
abbrev Sg := Int × Nat
def rdn (l : List Int) (σ : Sg) : Nat := if σ.2 = 0 then gN l σ.1 else 0
def rds (l : List Int) (σ : Sg) : Sg := if σ.2 = 0 then (gK l σ.1, gE l σ.1) else σ
def abn (l : List Int) (a : Nat) (σ : Sg) : Nat := (a + rdn l σ) % 18446744073709551616
def abs (l : List Int) (a : Nat) (σ : Sg) : Sg := if (rds l σ).2 = 0 ∧ 18446744073709551616 ≤ a + rdn l σ then ((rds l σ).1, 5) else rds l σ
def onr (l : List Int) (a : Ru) (σ : Sg) : Ru := ⟨abn l a.s σ, abn l a.t (abs l a.s σ), rdn l (abs l a.t (abs l a.s σ))⟩
def ons (l : List Int) (a : Ru) (σ : Sg) : Sg := rds l (abs l a.t (abs l a.s σ))
def rrs (l : List Int) : Nat → Ru → Sg → List Ru × Sg
  | 0, _, σ => ([], σ)
  | n + 1, a, σ => (onr l a σ :: (rrs l n (onr l a σ) (ons l a σ)).1, (rrs l n (onr l a σ) (ons l a σ)).2)
theorem rds_bad (l : List Int) (σ : Sg) (h : σ.2 ≠ 0) : rds l σ = σ ∧ rdn l σ = 0 := by unfold rds rdn; rw [if_neg h, if_neg h]; exact ⟨rfl, rfl⟩
theorem rdn_err (l : List Int) (σ : Sg) (h : (rds l σ).2 ≠ 0) : rdn l σ = 0 := by
  unfold rds at h
  unfold rdn
  split
  · rename_i c; rw [if_pos c] at h; exact (g_err l _ h).1
  · rfl
theorem rdn_lt (l : List Int) (σ : Sg) (hr : ∀ c ∈ l, 0 ≤ c ∧ c < 256) : rdn l σ < 18446744073709551616 := by
  unfold rdn
  split
  · exact g_lt l _ hr
  · omega
theorem abn_lt (l : List Int) (a : Nat) (σ : Sg) : abn l a σ < 18446744073709551616 := Nat.mod_lt _ (by omega)
theorem abs_bad (l : List Int) (a : Nat) (σ : Sg) (h : σ.2 ≠ 0) : abs l a σ = σ := by
  unfold abs
  rw [(rds_bad l σ h).1]
  rw [if_neg (by intro c; exact h c.1)]
theorem ons_bad (l : List Int) (a : Ru) (σ : Sg) (h : σ.2 ≠ 0) : ons l a σ = σ := by
  unfold ons
  rw [abs_bad l a.s σ h, abs_bad l a.t σ h, (rds_bad l σ h).1]
theorem rrs_bad (l : List Int) (n : Nat) (a : Ru) (σ : Sg) (h : σ.2 ≠ 0) : (rrs l n a σ).2 = σ := by
  induction n generalizing a with
  | zero => rfl
  | succ n ih => show (rrs l n (onr l a σ) (ons l a σ)).2 = σ; rw [ons_bad l a σ h]; exact ih _
theorem rrs_len (l : List Int) (n : Nat) (a : Ru) (σ : Sg) : (rrs l n a σ).1.length = n := by
  induction n generalizing a σ with
  | zero => rfl
  | succ n ih => show (_ :: (rrs l n (onr l a σ) (ons l a σ)).1).length = _; rw [List.length_cons, ih]
theorem onr_ok (l : List Int) (a : Ru) (σ : Sg) (hr : ∀ c ∈ l, 0 ≤ c ∧ c < 256) : Okr (onr l a σ) := ⟨abn_lt _ _ _, abn_lt _ _ _, rdn_lt _ _ hr⟩
theorem rrs_ok (l : List Int) (n : Nat) (a : Ru) (σ : Sg) (hr : ∀ c ∈ l, 0 ≤ c ∧ c < 256) : ∀ r ∈ (rrs l n a σ).1, Okr r := by
  induction n generalizing a σ with
  | zero => intro r h; simp [rrs] at h
  | succ n ih =>
    intro r h
    change r ∈ onr l a σ :: (rrs l n (onr l a σ) (ons l a σ)).1 at h
    rcases List.mem_cons.1 h with rfl | h
    · exact onr_ok l a σ hr
    · exact ih _ _ r h
/- the byte that tells whether it is failed -/
def fgb (l : List Int) (σ : Sg) : Bool := decide (σ.2 = 0 ∧ 0 ≤ σ.1 ∧ σ.1 < (l.length : Int) ∧ l.getD σ.1.toNat 0 = 1)
def fgs (l : List Int) (σ : Sg) : Sg := if σ.2 ≠ 0 then σ else if σ.1 < (l.length : Int) then (σ.1 + 1, if l.getD σ.1.toNat 0 ≤ 1 then 0 else 2) else (σ.1, 3)
structure Sq where
  next : Nat
  last : Nat
  fl : Bool
  fat : Nat
  L : List Ru
def s1 (l : List Int) : Sg := rds l (0, 0)
def s2 (l : List Int) : Sg := rds l (s1 l)
def s3 (l : List Int) : Sg := fgs l (s2 l)
def s4 (l : List Int) : Sg := rds l (s3 l)
def rsL (l : List Int) (σ : Sg) : List Ru := if 64 < rdn l σ then [] else (rrs l (rdn l σ) rz (rds l σ)).1
def rsS (l : List Int) (σ : Sg) : Sg := if 64 < rdn l σ then ((rds l σ).1, 12) else (rrs l (rdn l σ) rz (rds l σ)).2
def sq (l : List Int) : Sq := ⟨rdn l (0, 0), rdn l (s1 l), fgb l (s2 l), if fgb l (s2 l) then rdn l (s3 l) else 0, if fgb l (s2 l) then [] else rsL l (s3 l)⟩
def s5 (l : List Int) : Sg := if fgb l (s2 l) then s4 l else rsS l (s3 l)
/- a condition that must hold -/
def mst (σ : Sg) (c : Bool) (e : Nat) : Sg := if σ.2 = 0 ∧ c = false then (σ.1, e) else σ
def s6 (l : List Int) : Sg := mst (mst (s5 l) (decide ((s5 l).1 = (l.length : Int))) 2) (wr (sq l).next (sq l).last (sq l).fl (sq l).fat (sq l).L) 1
theorem mst_bad (σ : Sg) (c : Bool) (e : Nat) (h : σ.2 ≠ 0) : mst σ c e = σ := by unfold mst; rw [if_neg (fun k => h k.1)]
theorem mst_yes (σ : Sg) (e : Nat) : mst σ true e = σ := by unfold mst; rw [if_neg (by simp)]
theorem fgs_bad (l : List Int) (σ : Sg) (h : σ.2 ≠ 0) : fgs l σ = σ ∧ fgb l σ = false := by
  unfold fgs fgb
  rw [if_pos h]
  exact ⟨rfl, by simp [h]⟩
theorem rsS_bad (l : List Int) (σ : Sg) (h : (rds l σ).2 ≠ 0) : rsS l σ = rds l σ ∧ rsL l σ = [] := by
  unfold rsS rsL
  rw [rdn_err l σ h, if_neg (by omega), if_neg (by omega)]
  exact ⟨rfl, rfl⟩
/- an error on the way is the error -/
theorem s6_of (l : List Int) (h : (s5 l).2 ≠ 0) : (s6 l).2 = (s5 l).2 := by
  unfold s6
  rw [mst_bad _ _ _ h, mst_bad _ _ _ h]
theorem s5_s4 (l : List Int) (h : (s4 l).2 ≠ 0) : s5 l = s4 l := by
  unfold s5
  split
  · rfl
  · exact (rsS_bad l (s3 l) h).1
theorem s4_s3 (l : List Int) (h : (s3 l).2 ≠ 0) : s4 l = s3 l := (rds_bad l _ h).1
theorem s3_s2 (l : List Int) (h : (s2 l).2 ≠ 0) : s3 l = s2 l := (fgs_bad l _ h).1
theorem s2_s1 (l : List Int) (h : (s1 l).2 ≠ 0) : s2 l = s1 l := (rds_bad l _ h).1
theorem e_s4 (l : List Int) (h : (s4 l).2 ≠ 0) : (s6 l).2 = (s4 l).2 := by have e := s5_s4 l h; rw [s6_of l (by rw [e]; exact h), e]
theorem e_s3 (l : List Int) (h : (s3 l).2 ≠ 0) : (s6 l).2 = (s3 l).2 := by have e := s4_s3 l h; rw [e_s4 l (by rw [e]; exact h), e]
theorem e_s2 (l : List Int) (h : (s2 l).2 ≠ 0) : (s6 l).2 = (s2 l).2 := by have e := s3_s2 l h; rw [e_s3 l (by rw [e]; exact h), e]
theorem e_s1 (l : List Int) (h : (s1 l).2 ≠ 0) : (s6 l).2 = (s1 l).2 := by have e := s2_s1 l h; rw [e_s2 l (by rw [e]; exact h), e]
/- parts of a row -/
def Sp (l : List Int) (q : Int) (K : Int) (X : List Int) : Prop := 0 ≤ q ∧ q ≤ K ∧ K ≤ (l.length : Int) ∧ (l.drop q.toNat).take (K - q).toNat = X
theorem Sp.app {l : List Int} {q K M : Int} {X Y : List Int} (h : Sp l q K X) (k : Sp l K M Y) : Sp l q M (X ++ Y) := by
  obtain ⟨a, b, c, d⟩ := h
  obtain ⟨a', b', c', d'⟩ := k
  refine ⟨a, by omega, c', ?_⟩
  rw [← d, ← d', show (M - q).toNat = (K - q).toNat + (M - K).toNat by omega, List.take_add, List.drop_drop, show q.toNat + (K - q).toNat = K.toNat by omega]
theorem Sp.all {l : List Int} {X : List Int} (h : Sp l 0 (l.length : Int) X) : l = X := by
  obtain ⟨_, _, _, d⟩ := h
  rw [← d]
  simp
theorem rds_ok (l : List Int) (σ : Sg) (hr : ∀ c ∈ l, 0 ≤ c ∧ c < 256) (h : (rds l σ).2 = 0) : σ.2 = 0 ∧ Sp l σ.1 (rds l σ).1 (wrt (rdn l σ)) := by
  unfold rds at h ⊢
  by_cases c : σ.2 = 0
  · rw [if_pos c] at h ⊢
    unfold rdn
    rw [if_pos c]
    obtain ⟨o1, o2, o3, o4, o5⟩ := g_ok l σ.1 hr h
    exact ⟨c, o1, by simp only; omega, o3, o4⟩
  · rw [if_neg c] at h; exact absurd h c
theorem abs_ok (l : List Int) (a : Nat) (σ : Sg) (hr : ∀ c ∈ l, 0 ≤ c ∧ c < 256) (h : (abs l a σ).2 = 0) : σ.2 = 0 ∧ Sp l σ.1 (abs l a σ).1 (wrt (abn l a σ - a)) ∧ a ≤ abn l a σ := by
  have h2 : ¬ ((rds l σ).2 = 0 ∧ 18446744073709551616 ≤ a + rdn l σ) := fun c => by unfold abs at h; rw [if_pos c] at h; simp at h
  have e : abs l a σ = rds l σ := by unfold abs; rw [if_neg h2]
  rw [e] at h ⊢
  obtain ⟨z, s⟩ := rds_ok l σ hr h
  have e2 : abn l a σ = a + rdn l σ := by unfold abn; exact Nat.mod_eq_of_lt (by omega)
  rw [e2, show a + rdn l σ - a = rdn l σ by omega]
  exact ⟨z, s, by omega⟩
theorem ons_ok (l : List Int) (a : Ru) (σ : Sg) (hr : ∀ c ∈ l, 0 ≤ c ∧ c < 256) (h : (ons l a σ).2 = 0) : σ.2 = 0 ∧ Sp l σ.1 (ons l a σ).1 (wrt ((onr l a σ).s - a.s) ++ (wrt ((onr l a σ).t - a.t) ++ wrt (onr l a σ).x)) := by
  obtain ⟨z3, p3⟩ := rds_ok l (abs l a.t (abs l a.s σ)) hr h
  obtain ⟨z2, p2, _⟩ := abs_ok l a.t (abs l a.s σ) hr z3
  obtain ⟨z1, p1, _⟩ := abs_ok l a.s σ hr z2
  exact ⟨z1, p1.app (p2.app p3)⟩
theorem Sp.nil (l : List Int) (q : Int) (h0 : 0 ≤ q) (h : q ≤ (l.length : Int)) : Sp l q q [] := ⟨h0, Int.le_refl _, h, by simp⟩
theorem rrs_sp (l : List Int) (n : Nat) (a : Ru) (σ : Sg) (hr : ∀ c ∈ l, 0 ≤ c ∧ c < 256) (h0 : 0 ≤ σ.1) (h1 : σ.1 ≤ (l.length : Int)) (h : (rrs l n a σ).2.2 = 0) : σ.2 = 0 ∧ Sp l σ.1 (rrs l n a σ).2.1 (wrs a (rrs l n a σ).1) := by
  induction n generalizing a σ with
  | zero => exact ⟨h, Sp.nil l _ h0 h1⟩
  | succ n ih =>
    change (rrs l n (onr l a σ) (ons l a σ)).2.2 = 0 at h
    by_cases c : (ons l a σ).2 = 0
    · obtain ⟨z, p⟩ := ons_ok l a σ hr c
      obtain ⟨_, p2⟩ := ih _ _ (by have := p.1; have := p.2.1; omega) p.2.2.1 h
      refine ⟨z, ?_⟩
      have := p.app p2
      simpa [rrs, wrs, List.append_assoc] using this
    · rw [rrs_bad l n _ _ c] at h; exact absurd h c
/- what is read without an error is written as it stood -/
theorem read_back (l : List Int) (hr : ∀ c ∈ l, 0 ≤ c ∧ c < 256) (h : (s6 l).2 = 0) : wr (sq l).next (sq l).last (sq l).fl (sq l).fat (sq l).L = true ∧ wst (sq l).next (sq l).last (sq l).fl (sq l).fat (sq l).L = l := by
  have z5 : (s5 l).2 = 0 := by
    rcases Nat.eq_zero_or_pos (s5 l).2 with c | c
    · exact c
    · rw [s6_of l (by omega)] at h; exact h
  have zl : (s5 l).1 = (l.length : Int) := by
    rcases Int.lt_trichotomy (s5 l).1 (l.length : Int) with c | c | c
    · exfalso
      unfold s6 at h
      have e : mst (s5 l) (decide ((s5 l).1 = (l.length : Int))) 2 = ((s5 l).1, 2) := by unfold mst; rw [if_pos ⟨z5, by simp; omega⟩]
      rw [e, mst_bad _ _ _ (by simp)] at h
      simp at h
    · exact c
    · exfalso
      unfold s6 at h
      have e : mst (s5 l) (decide ((s5 l).1 = (l.length : Int))) 2 = ((s5 l).1, 2) := by unfold mst; rw [if_pos ⟨z5, by simp; omega⟩]
      rw [e, mst_bad _ _ _ (by simp)] at h
      simp at h
  have zw : wr (sq l).next (sq l).last (sq l).fl (sq l).fat (sq l).L = true := by
    rcases e : wr (sq l).next (sq l).last (sq l).fl (sq l).fat (sq l).L with _ | _
    · exfalso
      unfold s6 at h
      rw [zl, decide_eq_true rfl, mst_yes, e] at h
      unfold mst at h
      rw [if_pos ⟨z5, rfl⟩] at h
      simp at h
    · rfl
  refine ⟨zw, ?_⟩
  have back : ∀ σ : Sg, (rds l σ).2 = 0 → σ.2 = 0 := fun σ h => (rds_ok l σ hr h).1
  have z4 : (s4 l).2 = 0 := by
    rcases Nat.eq_zero_or_pos (s4 l).2 with c | c
    · exact c
    · have := s5_s4 l (by omega); rw [this] at z5; exact z5
  have z3 : (s3 l).2 = 0 := back _ z4
  have z2 : (s2 l).2 = 0 := by
    rcases Nat.eq_zero_or_pos (s2 l).2 with c | c
    · exact c
    · have := s3_s2 l (by omega); rw [this] at z3; exact z3
  have z1 : (s1 l).2 = 0 := back _ z2
  have p1 := (rds_ok l (0, 0) hr z1).2
  have p2 := (rds_ok l (s1 l) hr z2).2
  have p4 := (rds_ok l (s3 l) hr z4).2
  have b2 : 0 ≤ (s2 l).1 := by have := p2.1; have := p2.2.1; show 0 ≤ (rds l (s1 l)).1; omega
  have p3 : (s3 l).1 = (s2 l).1 + 1 ∧ (s2 l).1 < (l.length : Int) ∧ l.getD (s2 l).1.toNat 0 = (if fgb l (s2 l) then 1 else 0) := by
    unfold s3 fgs at z3 ⊢
    rw [if_neg (by omega)] at z3 ⊢
    by_cases c : (s2 l).1 < (l.length : Int)
    · rw [if_pos c] at z3 ⊢
      refine ⟨rfl, c, ?_⟩
      by_cases c2 : l.getD (s2 l).1.toNat 0 ≤ 1
      · have := hr (l.getD (s2 l).1.toNat 0) (by rw [List.getD_eq_getElem?_getD, List.getElem?_eq_getElem (by omega)]; exact List.getElem_mem _)
        unfold fgb
        by_cases c3 : l.getD (s2 l).1.toNat 0 = 1
        · rw [decide_eq_true ⟨z2, b2, c, c3⟩, if_pos rfl]; exact c3
        · rw [decide_eq_false (fun k => c3 k.2.2.2), if_neg (by simp)]; omega
      · simp only [if_neg c2] at z3; simp at z3
    · rw [if_neg c] at z3; simp at z3
  obtain ⟨e3, c3, v3⟩ := p3
  have q3 : Sp l (s2 l).1 (s3 l).1 [if fgb l (s2 l) then 1 else 0] := by
    refine ⟨b2, by omega, by omega, ?_⟩
    rw [e3, show ((s2 l).1 + 1 - (s2 l).1).toNat = 1 by omega, drop_cons l _ (by omega), List.take_succ_cons, List.take_zero, v3]
  refine (Sp.all ?_).symm
  rw [← zl]
  unfold wst
  refine p1.app (p2.app ?_)
  show Sp l (s2 l).1 (s5 l).1 _
  unfold sq
  simp only
  unfold s5 at z5 ⊢
  rcases e : fgb l (s2 l) with _ | _
  · simp only [e, Bool.false_eq_true, if_false] at q3 z5 ⊢
    refine q3.app ?_
    unfold rsS at z5
    unfold rsS rsL
    by_cases c : 64 < rdn l (s3 l)
    · rw [if_pos c] at z5; simp at z5
    · rw [if_neg c] at z5
      rw [if_neg c, if_neg c, rrs_len]
      refine p4.app ?_
      exact (rrs_sp l _ rz _ hr (by have := p4.1; have := p4.2.1; show 0 ≤ (rds l (s3 l)).1; have := p4.2.2.1; unfold s4 at *; omega) p4.2.2.1 z5).2
  · simp only [e, if_true] at q3 ⊢
    exact q3.app p4
/- what was written is read -/
def chn : Ru → List Ru → Prop
  | _, [] => True
  | p, r :: L => p.s ≤ r.s ∧ p.t ≤ r.t ∧ chn r L
theorem chn_of (p : Ru) (L : List Ru) (h0 : ∀ r, L[0]? = some r → p.s ≤ r.s ∧ p.t ≤ r.t) (h : ord L L.length = true) : chn p L := by
  induction L generalizing p with
  | nil => trivial
  | cons r L ih =>
    obtain ⟨a, b⟩ := h0 r rfl
    refine ⟨a, b, ih r ?_ ?_⟩
    · intro q hq
      rw [ord_iff] at h
      rcases L with _ | ⟨q', L⟩
      · simp at hq
      · simp at hq
        subst hq
        have := h 1 (by simp)
        simp at this
        omega
    · rw [ord_iff] at h ⊢
      intro i hi
      rcases Nat.eq_zero_or_pos i with c | c
      · exact .inl c
      · right
        have := h (i + 1) (by simp; omega)
        rcases this with k | k
        · omega
        · obtain ⟨j, rfl⟩ : ∃ j, i = j + 1 := ⟨i - 1, by omega⟩
          simpa using k
theorem got2 (pre post : List Int) (n : Nat) (hn : n < 18446744073709551616) (L : List Int) (hL : L = pre ++ (wrt n ++ post)) (σ : Sg) (hp : σ = ((pre.length : Int), 0)) :
    rdn L σ = n ∧ rds L σ = (((pre ++ wrt n).length : Int), 0) := by
  obtain ⟨a, b, c⟩ := got pre post n hn L hL σ.1 (by rw [hp])
  unfold rdn rds
  rw [if_pos (by rw [hp]), if_pos (by rw [hp]), a, b, c, hp]
  refine ⟨rfl, ?_⟩
  rw [List.length_append]
  simp
theorem got_rs (L : List Int) (R : List Ru) (a : Ru) (pre post : List Int) (hL : L = pre ++ (wrs a R ++ post)) (hk : ∀ r ∈ R, Okr r) (hc : chn a R) : rrs L R.length a ((pre.length : Int), 0) = (R, (((pre ++ wrs a R).length : Int), 0)) := by
  induction R generalizing a pre with
  | nil => simp [rrs, wrs]
  | cons r R ih =>
    obtain ⟨c1, c2, c3⟩ := hc
    have hr := hk r (by simp)
    have k1 := hr.s
    have k2 := hr.t
    obtain ⟨n1, g1⟩ := got2 pre (wrt (r.t - a.t) ++ (wrt r.x ++ (wrs r R ++ post))) (r.s - a.s) (by omega) L (by rw [hL]; simp [wrs, List.append_assoc]) ((pre.length : Int), 0) rfl
    have a1 : abs L a.s ((pre.length : Int), 0) = (((pre ++ wrt (r.s - a.s)).length : Int), 0) := by unfold abs; rw [n1, if_neg (by omega), g1]
    have b1 : abn L a.s ((pre.length : Int), 0) = r.s := by unfold abn; rw [n1, Nat.mod_eq_of_lt (by omega)]; omega
    obtain ⟨n2, g2⟩ := got2 (pre ++ wrt (r.s - a.s)) (wrt r.x ++ (wrs r R ++ post)) (r.t - a.t) (by omega) L (by rw [hL]; simp [wrs, List.append_assoc]) _ rfl
    have a2 : abs L a.t (((pre ++ wrt (r.s - a.s)).length : Int), 0) = (((pre ++ wrt (r.s - a.s) ++ wrt (r.t - a.t)).length : Int), 0) := by unfold abs; rw [n2, if_neg (by omega), g2]
    have b2 : abn L a.t (((pre ++ wrt (r.s - a.s)).length : Int), 0) = r.t := by unfold abn; rw [n2, Nat.mod_eq_of_lt (by omega)]; omega
    obtain ⟨n3, g3⟩ := got2 (pre ++ wrt (r.s - a.s) ++ wrt (r.t - a.t)) (wrs r R ++ post) r.x hr.x L (by rw [hL]; simp [wrs, List.append_assoc]) _ rfl
    have e1 : onr L a ((pre.length : Int), 0) = r := by unfold onr; rw [a1, a2, b1, b2, n3]
    have e2 : ons L a ((pre.length : Int), 0) = (((pre ++ wrt (r.s - a.s) ++ wrt (r.t - a.t) ++ wrt r.x).length : Int), 0) := by unfold ons; rw [a1, a2, g3]
    have := ih r (pre ++ wrt (r.s - a.s) ++ wrt (r.t - a.t) ++ wrt r.x) (by rw [hL]; simp [wrs, List.append_assoc]) (fun x hx => hk x (by simp [hx])) c3
    show (onr L a ((pre.length : Int), 0) :: (rrs L R.length (onr L a ((pre.length : Int), 0)) (ons L a ((pre.length : Int), 0))).1, (rrs L R.length (onr L a ((pre.length : Int), 0)) (ons L a ((pre.length : Int), 0))).2) = _
    rw [e1, e2, this]
    simp [wrs, List.append_assoc]
theorem there_back (next last : Nat) (fl : Bool) (fat : Nat) (R : List Ru) (l : List Int) (hl : l = wst next last fl fat R) (h : wr next last fl fat R = true) (hf : fat < 18446744073709551616) (hk : ∀ r ∈ R, Okr r) : sq l = ⟨next, last, fl, fat, R⟩ ∧ (s6 l).2 = 0 := by
  have hw := h
  rw [wr_iff] at h
  obtain ⟨h1, h2, h3, h4, h5⟩ := h
  have XX : ∀ Y : List Int, l = wrt next ++ (wrt last ++ Y) → Y ≠ [] → rdn l (0, 0) = next ∧ s1 l = (((wrt next).length : Int), 0) ∧ rdn l (s1 l) = last ∧ s2 l = (((wrt next ++ wrt last).length : Int), 0) ∧ (s2 l).1 < (l.length : Int) ∧ l.getD (s2 l).1.toNat 0 = Y.getD 0 0 := fun Y hX hn => by
    obtain ⟨n1, g1⟩ := got2 [] (wrt last ++ Y) next (by omega) l (by rw [hX]; rfl) (0, 0) rfl
    have e1 : s1 l = (((wrt next).length : Int), 0) := by unfold s1; rw [g1]; rfl
    obtain ⟨n2, g2⟩ := got2 (wrt next) Y last (by omega) l hX (s1 l) e1
    have e2 : s2 l = (((wrt next ++ wrt last).length : Int), 0) := g2
    refine ⟨n1, e1, n2, e2, ?_, ?_⟩
    · have := List.length_pos_iff.2 hn
      have e := congrArg List.length hX
      simp only [List.length_append] at e
      rw [e2]
      simp only [List.length_append]
      omega
    · rw [e2, hX, ← List.append_assoc]
      simp only [Int.toNat_natCast]
      rw [List.getD_eq_getElem?_getD, List.getElem?_append_right (Nat.le_refl _), Nat.sub_self, ← List.getD_eq_getElem?_getD]
  rcases fl with _ | _
  · obtain ⟨hfat, ho⟩ := h5 rfl
    subst hfat
    have hl' : l = wrt next ++ (wrt last ++ (0 :: (wrt R.length ++ wrs rz R))) := hl
    obtain ⟨n1, e1, n2, e2, lt, gd⟩ := XX _ hl' (by simp)
    have fb : fgb l (s2 l) = false := by unfold fgb; rw [gd]; simp
    have e3 : s3 l = (((wrt next ++ wrt last ++ [0]).length : Int), 0) := by
      unfold s3 fgs
      rw [if_neg (by rw [e2]; simp), if_pos lt, gd, if_pos (by simp), e2]
      simp only [List.length_append, List.length_cons, List.length_nil]
      exact Prod.ext (by simp only; omega) rfl
    obtain ⟨n4, g4⟩ := got2 (wrt next ++ wrt last ++ [0]) (wrs rz R) R.length (by omega) l (by rw [hl']; simp [List.append_assoc]) (s3 l) e3
    have rr := got_rs l R rz (wrt next ++ wrt last ++ [0] ++ wrt R.length) [] (by rw [hl']; simp [List.append_assoc]) hk (chn_of rz R (fun r _ => ⟨Nat.zero_le _, Nat.zero_le _⟩) ho)
    have q : sq l = ⟨next, last, false, 0, R⟩ := by
      unfold sq
      rw [n1, n2, fb]
      simp only [Bool.false_eq_true, if_false]
      unfold rsL
      rw [n4, if_neg (by omega), g4, rr]
    have e5 : s5 l = ((l.length : Int), 0) := by
      unfold s5
      rw [fb]
      simp only [Bool.false_eq_true, if_false]
      unfold rsS
      rw [n4, if_neg (by omega), g4, rr, hl']
      simp [List.append_assoc]
    refine ⟨q, ?_⟩
    unfold s6
    rw [q, hw, mst_yes, e5]
    simp [mst]
  · obtain rfl := h4 rfl
    have hl' : l = wrt next ++ (wrt last ++ (1 :: wrt fat)) := hl
    obtain ⟨n1, e1, n2, e2, lt, gd⟩ := XX _ hl' (by simp)
    have fb : fgb l (s2 l) = true := by unfold fgb; rw [gd]; exact decide_eq_true ⟨by rw [e2], by rw [e2]; simp only; omega, lt, rfl⟩
    have e3 : s3 l = (((wrt next ++ wrt last ++ [1]).length : Int), 0) := by
      unfold s3 fgs
      rw [if_neg (by rw [e2]; simp), if_pos lt, gd, if_pos (by simp), e2]
      simp only [List.length_append, List.length_cons, List.length_nil]
      exact Prod.ext (by simp only; omega) rfl
    obtain ⟨n4, g4⟩ := got2 (wrt next ++ wrt last ++ [1]) [] fat hf l (by rw [hl']; simp [List.append_assoc]) (s3 l) e3
    have q : sq l = ⟨next, last, true, fat, []⟩ := by
      unfold sq
      rw [n1, n2, fb]
      simp only [if_true]
      rw [n4]
    have e5 : s5 l = ((l.length : Int), 0) := by
      unfold s5
      rw [fb]
      simp only [if_true]
      unfold s4
      rw [g4, hl']
      simp [List.append_assoc]
    refine ⟨q, ?_⟩
    unfold s6
    rw [q, hw, mst_yes, e5]
    simp [mst]
end Go.Proofs.Ytmooblbnkjaenaa
