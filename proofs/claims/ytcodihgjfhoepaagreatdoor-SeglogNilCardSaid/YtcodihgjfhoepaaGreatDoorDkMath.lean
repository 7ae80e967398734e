/- A stand-in disk told by lists: files by rising names, and what each call makes of them. No program. -/
import Derived.WalkKit
namespace Go.Proofs.YtcodihgjfhoepaaGreatDoor
open Go Go.RowKit
set_option maxRecDepth 20000

/- a file: its name, its bytes, how many of them are safe -/
structure Fl where
  nm : ByteArray
  bs : List Int
  sf : Nat
abbrev nl (s : ByteArray) : List UInt8 := s.data.toList
theorem nl_inj {s t : ByteArray} (h : nl s = nl t) : s = t := by
  rcases s with ⟨⟨s⟩⟩
  rcases t with ⟨⟨t⟩⟩
  have : s = t := h
  rw [this]
def fz : Fl := ⟨⟨#[]⟩, [], 0⟩
def Rise (l : List Fl) : Prop := l.Pairwise (fun a b => nl a.nm < nl b.nm)
def fnd : List Fl → ByteArray → Option Fl
  | [], _ => none
  | f :: l, k => if f.nm = k then some f else fnd l k
def wo : List Fl → ByteArray → List Fl
  | [], _ => []
  | f :: l, k => if f.nm = k then wo l k else f :: wo l k
def ins (f : Fl) : List Fl → List Fl
  | [] => [f]
  | x :: l => if nl f.nm < nl x.nm then f :: x :: l else x :: ins f l
def wi (l : List Fl) (f : Fl) : List Fl := ins f (wo l f.nm)
def usd (l : List Fl) : Nat := (l.map (·.bs.length)).sum
theorem nlt_irrefl (a : List UInt8) : ¬ a < a := List.lt_irrefl a
theorem nlt_trans {a b c : List UInt8} (h : a < b) (k : b < c) : a < c := List.lt_trans h k
theorem nlt_or {a b : List UInt8} (h : a ≠ b) (k : ¬ a < b) : b < a := by
  by_cases c : b < a
  · exact c
  · exact absurd (List.le_antisymm (List.not_lt.1 c) (List.not_lt.1 k)) h
theorem mem_wo {l : List Fl} {k : ByteArray} {x : Fl} : x ∈ wo l k ↔ x ∈ l ∧ x.nm ≠ k := by
  induction l with
  | nil => simp [wo]
  | cons f l ih =>
    unfold wo
    by_cases c : f.nm = k
    · rw [if_pos c, ih, List.mem_cons]
      constructor
      · rintro ⟨h1, h2⟩; exact ⟨.inr h1, h2⟩
      · rintro ⟨rfl | h1, h2⟩
        · exact absurd c h2
        · exact ⟨h1, h2⟩
    · rw [if_neg c, List.mem_cons, List.mem_cons, ih]
      constructor
      · rintro (rfl | ⟨h1, h2⟩)
        · exact ⟨.inl rfl, c⟩
        · exact ⟨.inr h1, h2⟩
      · rintro ⟨rfl | h1, h2⟩
        · exact .inl rfl
        · exact .inr ⟨h1, h2⟩
theorem Rise.wo {l : List Fl} (h : Rise l) (k : ByteArray) : Rise (wo l k) := by
  induction l with
  | nil => exact h
  | cons f l ih =>
    have h' := List.pairwise_cons.1 h
    show Rise (if f.nm = k then _ else _)
    split
    · exact ih h'.2
    · exact List.pairwise_cons.2 ⟨fun x hx => h'.1 x (mem_wo.1 hx).1, ih h'.2⟩
theorem mem_ins {l : List Fl} {f x : Fl} : x ∈ ins f l ↔ x = f ∨ x ∈ l := by
  induction l with
  | nil => simp [ins]
  | cons y l ih =>
    unfold ins
    split
    · simp
    · rw [List.mem_cons, ih, List.mem_cons]
      constructor
      · rintro (h | h | h)
        · exact .inr (.inl h)
        · exact .inl h
        · exact .inr (.inr h)
      · rintro (h | h | h)
        · exact .inr (.inl h)
        · exact .inl h
        · exact .inr (.inr h)
theorem Rise.ins {l : List Fl} (h : Rise l) (f : Fl) (hn : ∀ x ∈ l, x.nm ≠ f.nm) : Rise (ins f l) := by
  induction l with
  | nil => exact List.pairwise_singleton _ _
  | cons y l ih =>
    have h' := List.pairwise_cons.1 h
    show Rise (if nl f.nm < nl y.nm then _ else _)
    split
    · rename_i c
      exact List.pairwise_cons.2 ⟨fun x hx => by
        rcases List.mem_cons.1 hx with rfl | hx
        · exact c
        · exact nlt_trans c (h'.1 x hx), h⟩
    · rename_i c
      refine List.pairwise_cons.2 ⟨fun x hx => ?_, ih h'.2 (fun x hx => hn x (List.mem_cons_of_mem _ hx))⟩
      rcases mem_ins.1 hx with rfl | hx
      · exact nlt_or (fun e => hn y (List.mem_cons_self) (nl_inj e).symm) c
      · exact h'.1 x hx
theorem mem_wi {l : List Fl} {f x : Fl} : x ∈ wi l f ↔ x = f ∨ (x ∈ l ∧ x.nm ≠ f.nm) := by
  unfold wi
  rw [mem_ins, mem_wo]
theorem Rise.wi {l : List Fl} (h : Rise l) (f : Fl) : Rise (wi l f) := (h.wo f.nm).ins f (fun _ hx => (mem_wo.1 hx).2)
theorem fnd_mem {l : List Fl} {k : ByteArray} {f : Fl} (h : fnd l k = some f) : f ∈ l ∧ f.nm = k := by
  induction l with
  | nil => cases h
  | cons y l ih =>
    unfold fnd at h
    split at h
    · rename_i c
      cases h
      exact ⟨List.mem_cons_self, c⟩
    · have := ih h
      exact ⟨List.mem_cons_of_mem _ this.1, this.2⟩
theorem fnd_none {l : List Fl} {k : ByteArray} (h : fnd l k = none) : ∀ f ∈ l, f.nm ≠ k := by
  induction l with
  | nil => intro f hf; cases hf
  | cons y l ih =>
    unfold fnd at h
    split at h
    · cases h
    · rename_i c
      intro f hf
      rcases List.mem_cons.1 hf with rfl | hf
      · exact c
      · exact ih h f hf
theorem fnd_no {l : List Fl} {k : ByteArray} (h : ∀ f ∈ l, f.nm ≠ k) : fnd l k = none := by
  induction l with
  | nil => rfl
  | cons y l ih =>
    unfold fnd
    rw [if_neg (h y List.mem_cons_self)]
    exact ih (fun f hf => h f (List.mem_cons_of_mem _ hf))
theorem Rise.once {l : List Fl} (h : Rise l) {f g : Fl} (hf : f ∈ l) (hg : g ∈ l) (e : f.nm = g.nm) : f = g := by
  induction l with
  | nil => cases hf
  | cons y l ih =>
    have h' := List.pairwise_cons.1 h
    rcases List.mem_cons.1 hf with rfl | hf'
    · rcases List.mem_cons.1 hg with rfl | hg'
      · rfl
      · exact absurd (e ▸ h'.1 g hg') (nlt_irrefl _)
    · rcases List.mem_cons.1 hg with rfl | hg'
      · exact absurd (e ▸ h'.1 f hf') (nlt_irrefl _)
      · exact ih h'.2 hf' hg'
theorem Rise.fnd {l : List Fl} (h : Rise l) {f : Fl} (hf : f ∈ l) : fnd l f.nm = some f := by
  cases e : Go.Proofs.YtcodihgjfhoepaaGreatDoor.fnd l f.nm with
  | none => exact absurd rfl (fnd_none e f hf)
  | some g =>
    have := fnd_mem e
    rw [h.once this.1 hf this.2]
/- a list by rising names is told by what is found -/
theorem fnd_of {l : List Fl} (h : Rise l) {k : ByteArray} {f : Fl} (hf : f ∈ l) (e : f.nm = k) : fnd l k = some f := by subst e; exact h.fnd hf
theorem fnd_iff {l : List Fl} (h : Rise l) {k : ByteArray} {f : Fl} : fnd l k = some f ↔ f ∈ l ∧ f.nm = k := ⟨fnd_mem, fun ⟨a, b⟩ => fnd_of h a b⟩
theorem opt_ext {α : Type} {a b : Option α} (h : ∀ x, a = some x ↔ b = some x) : a = b := by
  cases a with
  | none =>
    cases b with
    | none => rfl
    | some x => exact absurd ((h x).2 rfl) (by simp)
  | some x => exact ((h x).1 rfl).symm
theorem fnd_wo {l : List Fl} (h : Rise l) (k j : ByteArray) : fnd (wo l k) j = if j = k then none else fnd l j := by
  refine opt_ext fun f => ?_
  rw [fnd_iff (h.wo k), mem_wo]
  split
  · rename_i c
    subst c
    simp only [reduceCtorEq, iff_false]
    rintro ⟨⟨_, h1⟩, h2⟩
    exact h1 h2
  · rename_i c
    rw [fnd_iff h]
    constructor
    · rintro ⟨⟨h1, _⟩, h2⟩; exact ⟨h1, h2⟩
    · rintro ⟨h1, h2⟩; exact ⟨⟨h1, fun e => c (h2.symm.trans e)⟩, h2⟩
theorem fnd_wi {l : List Fl} (h : Rise l) (g : Fl) (j : ByteArray) : fnd (wi l g) j = if j = g.nm then some g else fnd l j := by
  refine opt_ext fun f => ?_
  rw [fnd_iff (h.wi g), mem_wi]
  split
  · rename_i c
    subst c
    constructor
    · rintro ⟨rfl | ⟨_, h1⟩, h2⟩
      · rfl
      · exact absurd h2 h1
    · rintro h1
      cases h1
      exact ⟨.inl rfl, rfl⟩
  · rename_i c
    rw [fnd_iff h]
    constructor
    · rintro ⟨rfl | ⟨h1, _⟩, h2⟩
      · exact absurd h2.symm c
      · exact ⟨h1, h2⟩
    · rintro ⟨h1, h2⟩
      exact ⟨.inr ⟨h1, fun e => c (h2.symm.trans e)⟩, h2⟩
theorem ins_len (f : Fl) (l : List Fl) : (ins f l).length = l.length + 1 := by
  induction l with
  | nil => rfl
  | cons y l ih => unfold ins; split <;> simp [ih]
theorem ins_usd (f : Fl) (l : List Fl) : usd (ins f l) = usd l + f.bs.length := by
  induction l with
  | nil => simp [ins, usd]
  | cons y l ih =>
    unfold ins
    split
    · simp [usd]; omega
    · simp only [usd, List.map_cons, List.sum_cons] at ih ⊢; omega
theorem wo_no {l : List Fl} {k : ByteArray} (h : ∀ f ∈ l, f.nm ≠ k) : wo l k = l := by
  induction l with
  | nil => rfl
  | cons y l ih =>
    unfold wo
    rw [if_neg (h y List.mem_cons_self), ih (fun f hf => h f (List.mem_cons_of_mem _ hf))]
theorem wo_some {l : List Fl} (h : Rise l) {f : Fl} (hf : f ∈ l) : (wo l f.nm).length + 1 = l.length ∧ usd (wo l f.nm) + f.bs.length = usd l := by
  induction l with
  | nil => cases hf
  | cons y l ih =>
    have h' := List.pairwise_cons.1 h
    rcases List.mem_cons.1 hf with rfl | hf'
    · have e : Go.Proofs.YtcodihgjfhoepaaGreatDoor.wo (f :: l) f.nm = l := by
        show (if f.nm = f.nm then _ else _) = _
        rw [if_pos rfl, wo_no]
        intro g hg e
        exact nlt_irrefl _ (e ▸ h'.1 g hg)
      rw [e]
      simp [usd]; omega
    · have hne : y.nm ≠ f.nm := fun e => nlt_irrefl _ (e ▸ h'.1 f hf')
      have e : Go.Proofs.YtcodihgjfhoepaaGreatDoor.wo (y :: l) f.nm = y :: Go.Proofs.YtcodihgjfhoepaaGreatDoor.wo l f.nm := by
        show (if y.nm = f.nm then _ else _) = _
        rw [if_neg hne]
      have := ih h'.2 hf'
      rw [e]
      simp only [usd, List.map_cons, List.sum_cons, List.length_cons] at this ⊢
      omega
theorem wo_none {l : List Fl} {k : ByteArray} (h : fnd l k = none) : wo l k = l := wo_no (fnd_none h)
theorem wi_some {l : List Fl} (h : Rise l) {f g : Fl} (hf : fnd l g.nm = some f) : (wi l g).length = l.length ∧ usd (wi l g) + f.bs.length = usd l + g.bs.length := by
  obtain ⟨h1, h2⟩ := fnd_mem hf
  have := wo_some h h1
  rw [h2] at this
  unfold wi
  rw [ins_len, ins_usd]
  omega
theorem wi_none {l : List Fl} {g : Fl} (hf : fnd l g.nm = none) : (wi l g).length = l.length + 1 ∧ usd (wi l g) = usd l + g.bs.length := by
  unfold wi
  rw [ins_len, ins_usd, wo_none hf]
  exact ⟨rfl, rfl⟩
theorem usd_mem {l : List Fl} {f : Fl} (hf : f ∈ l) : f.bs.length ≤ usd l := by
  induction l with
  | nil => cases hf
  | cons y l ih =>
    simp only [usd, List.map_cons, List.sum_cons] at ih ⊢
    rcases List.mem_cons.1 hf with rfl | hf
    · omega
    · have := ih hf; omega
/- one in the middle is another one of the same name -/
theorem rise_mid {A B : List Fl} {f g : Fl} (h : Rise (A ++ f :: B)) (e : g.nm = f.nm) : Rise (A ++ g :: B) := by
  unfold Rise at *
  rw [List.pairwise_append, List.pairwise_cons] at *
  obtain ⟨h1, ⟨h2, h3⟩, h4⟩ := h
  refine ⟨h1, ⟨fun x hx => by rw [e]; exact h2 x hx, h3⟩, fun a ha b hb => ?_⟩
  rcases List.mem_cons.1 hb with rfl | hb
  · rw [e]; exact h4 a ha f List.mem_cons_self
  · exact h4 a ha b (List.mem_cons_of_mem _ hb)
theorem fnd_mid {A B : List Fl} {f g : Fl} (h : Rise (A ++ f :: B)) (e : g.nm = f.nm) (j : ByteArray) : fnd (A ++ g :: B) j = if j = f.nm then some g else fnd (A ++ f :: B) j := by
  have hg := rise_mid h e
  refine opt_ext fun x => ?_
  rw [fnd_iff hg]
  split
  · rename_i c
    subst c
    constructor
    · rintro ⟨h1, h2⟩
      rw [hg.once h1 (by simp) (h2.trans e.symm)]
    · rintro h1
      cases h1
      exact ⟨by simp, e⟩
  · rename_i c
    rw [fnd_iff h]
    simp only [List.mem_append, List.mem_cons]
    constructor
    · rintro ⟨h1 | rfl | h1, h2⟩
      · exact ⟨.inl h1, h2⟩
      · exact absurd (h2.symm.trans e) c
      · exact ⟨.inr (.inr h1), h2⟩
    · rintro ⟨h1 | rfl | h1, h2⟩
      · exact ⟨.inl h1, h2⟩
      · exact absurd h2.symm c
      · exact ⟨.inr (.inr h1), h2⟩
/- what a fall leaves of the file at a place -/
def mor (keep : List Int) (i : Nat) (f : Fl) : Nat := if i < keep.length then (max (keep.getD i 0) 0).toNat % (f.bs.length - f.sf + 1) else 0
def wk (keep : List Int) (i : Nat) (f : Fl) : Fl := ⟨f.nm, f.bs.take (f.sf + mor keep i f), f.sf + mor keep i f⟩
def wkL (keep : List Int) : Nat → List Fl → List Fl
  | _, [] => []
  | i, f :: l => wk keep i f :: wkL keep (i + 1) l
theorem mor_le (keep : List Int) (i : Nat) (f : Fl) (h : f.sf ≤ f.bs.length) : f.sf + mor keep i f ≤ f.bs.length := by
  unfold mor
  split
  · have := Nat.mod_lt (max (keep.getD i 0) 0).toNat (show 0 < f.bs.length - f.sf + 1 by omega)
    omega
  · omega
theorem wkL_len (keep : List Int) (i : Nat) (l : List Fl) : (wkL keep i l).length = l.length := by
  induction l generalizing i with
  | nil => rfl
  | cons f l ih => simp [wkL, ih]
theorem wkL_app (keep : List Int) (i : Nat) (l r : List Fl) : wkL keep i (l ++ r) = wkL keep i l ++ wkL keep (i + l.length) r := by
  induction l generalizing i with
  | nil => simp [wkL]
  | cons f l ih => simp [wkL, ih, Nat.add_assoc, Nat.add_comm 1]
theorem wkL_snoc (keep : List Int) (l : List Fl) (i : Nat) (hi : i < l.length) : wkL keep 0 (l.take (i + 1)) = wkL keep 0 (l.take i) ++ [wk keep i (l.getD i fz)] := by
  have e : l.take (i + 1) = l.take i ++ [l.getD i fz] := by
    rw [List.take_succ_eq_append_getElem hi, List.getD_eq_getElem?_getD, List.getElem?_eq_getElem hi]; rfl
  rw [e, wkL_app, List.length_take, Nat.min_eq_left (by omega)]
  simp [wkL]
theorem wkL_get (keep : List Int) (l : List Fl) (j i : Nat) (hi : i < l.length) : (wkL keep j l).getD i fz = wk keep (j + i) (l.getD i fz) := by
  induction l generalizing i j with
  | nil => simp at hi
  | cons f l ih =>
    rcases i with _ | i
    · simp [wkL]
    · have := ih (j + 1) i (by simpa using hi)
      simp only [wkL, List.getD_cons_succ]
      rw [this]
      congr 1
      omega
theorem wkL_names (keep : List Int) (i : Nat) (l : List Fl) : (wkL keep i l).map Fl.nm = l.map Fl.nm := by
  induction l generalizing i with
  | nil => rfl
  | cons f l ih => simp [wkL, ih, wk]
theorem drop_get (l : List Fl) (i : Nat) (hi : i < l.length) : l.drop i = l.getD i fz :: l.drop (i + 1) := by
  rw [List.drop_eq_getElem_cons hi, List.getD_eq_getElem?_getD, List.getElem?_eq_getElem hi]; rfl
theorem getD_in (l : List Fl) (i : Nat) (hi : i < l.length) : l.getD i fz ∈ l := by
  rw [List.getD_eq_getElem?_getD, List.getElem?_eq_getElem hi]; exact List.getElem_mem _
theorem rise_names {l r : List Fl} (h : Rise l) (e : r.map Fl.nm = l.map Fl.nm) : Rise r := by
  have h1 : (l.map Fl.nm).Pairwise (fun a b => nl a < nl b) := List.pairwise_map.2 h
  rw [← e] at h1
  exact (List.pairwise_map (R := fun a b => nl a < nl b) (f := Fl.nm)).1 h1
/- a disk -/
structure St where
  room : Nat
  fs : List Fl
  up : Bool
  falls : Int
  lit : Bool
  acts : Nat
  part : Nat
structure Okf (f : Fl) : Prop where
  n1 : 1 ≤ f.nm.size
  n2 : f.nm.size ≤ 32
  safe : f.sf ≤ f.bs.length
  bytes : ∀ c ∈ f.bs, 0 ≤ c ∧ c < 256
structure Ok (S : St) : Prop where
  rise : Rise S.fs
  room : S.room ≤ 16777216
  used : usd S.fs ≤ S.room
  many : S.fs.length ≤ 256
  file : ∀ f ∈ S.fs, Okf f
  acts : S.acts < 9223372036854775808
  part : S.part < 9223372036854775808
def down (S : St) : St := ⟨S.room, S.fs, false, if S.up then wrap64 (S.falls + 1) else S.falls, false, 0, 0⟩
def cutOff (S : St) : Bool := S.lit && decide (S.acts = 0)
def tick (S : St) : St := if S.lit then (if S.acts = 0 then down S else ⟨S.room, S.fs, S.up, S.falls, S.lit, S.acts - 1, S.part⟩) else S
/- whether an act is done, and the disk then -/
def goes (S : St) : Bool := S.up && !cutOff S
def begun (S : St) : St := if S.up then tick S else S
def withFs (S : St) (l : List Fl) : St := ⟨S.room, l, S.up, S.falls, S.lit, S.acts, S.part⟩
def lighted (S : St) (n k : Int) : St := ⟨S.room, S.fs, S.up, S.falls, true, (max n 0).toNat, (max k 0).toNat⟩
def named (s : ByteArray) : Bool := decide (1 ≤ s.size) && decide (s.size ≤ 32)
/- acts: the error, and the disk behind it -/
def refuse (S : St) (s : ByteArray) (n : Nat) : Nat := if named s then (if S.room - usd S.fs < n ∨ (fnd S.fs s = none ∧ S.fs.length = 256) then 7 else 0) else 1
def old (S : St) (s : ByteArray) : Fl := (fnd S.fs s).getD ⟨s, [], 0⟩
def putOn (S : St) (b : List Int) : List Int := if cutOff S then b.take (S.part % (b.length + 1)) else b
def appF (S : St) (s : ByteArray) (b : List Int) : Fl := ⟨s, (old S s).bs ++ putOn S b, (old S s).sf⟩
def appE (S : St) (s : ByteArray) (b : List Int) : Nat := if S.up then (if cutOff S then 9 else refuse S s b.length) else 9
def appS (S : St) (s : ByteArray) (b : List Int) : St := if S.up then (if refuse S s b.length = 0 then withFs (tick S) (wi S.fs (appF S s b)) else tick S) else S
def synE (S : St) (s : ByteArray) : Nat := if goes S then (if (fnd S.fs s).isSome then 0 else 8) else 9
def synF (f : Fl) : Fl := ⟨f.nm, f.bs, f.bs.length⟩
def synS (S : St) (s : ByteArray) : St := if goes S then (match fnd S.fs s with | some f => withFs (begun S) (wi S.fs (synF f)) | none => begun S) else begun S
def renE (S : St) (s t : ByteArray) : Nat := if goes S then (if named t then (if (fnd S.fs s).isSome then 0 else 8) else 1) else 9
def renS (S : St) (s t : ByteArray) : St := if goes S then (if named t then (match fnd S.fs s with | some f => withFs (begun S) (wi (wo S.fs s) ⟨t, f.bs, f.sf⟩) | none => begun S) else begun S) else begun S
def fits (n : Int) (f : Fl) : Bool := decide (0 ≤ n) && decide (n ≤ (f.bs.length : Int))
def truF (f : Fl) (n : Nat) : Fl := ⟨f.nm, f.bs.take n, min f.sf n⟩
def truE (S : St) (s : ByteArray) (n : Int) : Nat := if goes S then (match fnd S.fs s with | some f => if fits n f then 0 else 1 | none => 8) else 9
def truS (S : St) (s : ByteArray) (n : Int) : St := if goes S then (match fnd S.fs s with | some f => if fits n f then withFs (begun S) (wi S.fs (truF f n.toNat)) else begun S | none => begun S) else begun S
def delE (S : St) (s : ByteArray) : Nat := if goes S then (if (fnd S.fs s).isSome then 0 else 8) else 9
def delS (S : St) (s : ByteArray) : St := if goes S then (if (fnd S.fs s).isSome then withFs (begun S) (wo S.fs s) else begun S) else begun S
def woke (S : St) (keep : List Int) : St := if S.up then S else ⟨S.room, wkL keep 0 S.fs, true, S.falls, S.lit, S.acts, S.part⟩
/- they keep to what a disk may be -/
theorem tick_fs (S : St) : (tick S).fs = S.fs := by unfold tick down; split <;> (try split) <;> rfl
theorem tick_room (S : St) : (tick S).room = S.room := by unfold tick down; split <;> (try split) <;> rfl
theorem begun_fs (S : St) : (begun S).fs = S.fs := by unfold begun; split; exact tick_fs S; rfl
theorem begun_room (S : St) : (begun S).room = S.room := by unfold begun; split; exact tick_room S; rfl
theorem Ok.down {S : St} (h : Ok S) : Ok (down S) := ⟨h.rise, h.room, h.used, h.many, h.file, by show 0 < _; omega, by show 0 < _; omega⟩
theorem Ok.tick {S : St} (h : Ok S) : Ok (tick S) := by
  unfold Go.Proofs.YtcodihgjfhoepaaGreatDoor.tick
  split
  · split
    · exact h.down
    · exact ⟨h.rise, h.room, h.used, h.many, h.file, by have := h.acts; show S.acts - 1 < _; omega, h.part⟩
  · exact h
theorem Ok.begun {S : St} (h : Ok S) : Ok (begun S) := by unfold Go.Proofs.YtcodihgjfhoepaaGreatDoor.begun; split; exact h.tick; exact h
theorem Ok.lighted {S : St} (h : Ok S) (n k : Int) (hn : n < 9223372036854775808) (hk : k < 9223372036854775808) : Ok (lighted S n k) :=
  ⟨h.rise, h.room, h.used, h.many, h.file, by show (max n 0).toNat < _; omega, by show (max k 0).toNat < _; omega⟩
theorem Ok.withFs {S : St} (h : Ok S) {l : List Fl} (h1 : Rise l) (h2 : usd l ≤ S.room) (h3 : l.length ≤ 256) (h4 : ∀ f ∈ l, Okf f) : Ok (withFs S l) := ⟨h1, h.room, h2, h3, h4, h.acts, h.part⟩
theorem old_ok {S : St} (h : Ok S) (s : ByteArray) : (∀ c ∈ (old S s).bs, 0 ≤ c ∧ c < 256) ∧ (old S s).sf ≤ (old S s).bs.length ∧ (old S s).bs.length ≤ S.room := by
  unfold old
  cases e : fnd S.fs s with
  | none => exact ⟨by simp, by simp, by simp⟩
  | some f =>
    have h1 := fnd_mem e
    have h2 := h.file f h1.1
    exact ⟨h2.bytes, h2.safe, Nat.le_trans (usd_mem h1.1) h.used⟩
theorem putOn_le (S : St) (b : List Int) : (putOn S b).length ≤ b.length ∧ ∀ c ∈ putOn S b, c ∈ b := by
  unfold putOn
  split
  · exact ⟨by rw [List.length_take]; omega, fun c hc => List.mem_of_mem_take hc⟩
  · exact ⟨Nat.le_refl _, fun c hc => hc⟩
theorem refuse_no {S : St} {s : ByteArray} {n : Nat} (h : refuse S s n = 0) (ho : Ok S) : named s = true ∧ n + usd S.fs ≤ S.room ∧ (fnd S.fs s = none → S.fs.length < 256) := by
  unfold refuse at h
  split at h
  · rename_i c
    split at h
    · cases h
    · rename_i c2
      have h1 := ho.used
      have h2 := ho.many
      refine ⟨c, ?_, fun e => ?_⟩
      · have : ¬ S.room - usd S.fs < n := fun e => c2 (.inl e)
        omega
      · have : ¬ S.fs.length = 256 := fun e' => c2 (.inr ⟨e, e'⟩)
        omega
  · cases h
theorem named_ok {s : ByteArray} (h : named s = true) : 1 ≤ s.size ∧ s.size ≤ 32 := by
  unfold named at h
  simpa using h
theorem Ok.put {S : St} (h : Ok S) {g : Fl} (hg : Okf g) (h1 : usd (wi S.fs g) ≤ S.room) (h2 : (wi S.fs g).length ≤ 256) {T : St} (hT : Ok T) (hr : T.room = S.room) : Ok (Go.Proofs.YtcodihgjfhoepaaGreatDoor.withFs T (wi S.fs g)) :=
  hT.withFs (h.rise.wi g) (by rw [hr]; exact h1) h2 (fun f hf => by
    rcases mem_wi.1 hf with rfl | hf
    · exact hg
    · exact h.file f hf.1)
theorem appF_ok {S : St} (h : Ok S) {s : ByteArray} {b : List Int} (hb : ∀ c ∈ b, 0 ≤ c ∧ c < 256) (hr : refuse S s b.length = 0) : Okf (appF S s b) ∧ usd (wi S.fs (appF S s b)) ≤ S.room ∧ (wi S.fs (appF S s b)).length ≤ 256 := by
  obtain ⟨h1, h2, h3⟩ := refuse_no hr h
  obtain ⟨n1, n2⟩ := named_ok h1
  obtain ⟨o1, o2, o3⟩ := old_ok h s
  obtain ⟨p1, p2⟩ := putOn_le S b
  refine ⟨⟨n1, n2, ?_, fun c hc => ?_⟩, ?_⟩
  · show (old S s).sf ≤ ((old S s).bs ++ putOn S b).length
    rw [List.length_append]; omega
  · rcases List.mem_append.1 hc with hc | hc
    · exact o1 c hc
    · exact hb c (p2 c hc)
  · cases e : fnd S.fs s with
    | none =>
      have e' : fnd S.fs (appF S s b).nm = none := e
      have := wi_none e'
      have l1 : (appF S s b).bs.length = (putOn S b).length := by simp [appF, old, e]
      have := h3 e
      omega
    | some f =>
      have e' : fnd S.fs (appF S s b).nm = some f := e
      have := wi_some h.rise e'
      have l1 : (appF S s b).bs.length = f.bs.length + (putOn S b).length := by simp [appF, old, e]
      have := h.many
      omega
theorem Ok.app {S : St} (h : Ok S) {s : ByteArray} {b : List Int} (hb : ∀ c ∈ b, 0 ≤ c ∧ c < 256) : Ok (appS S s b) := by
  unfold appS
  split
  · split
    · rename_i c
      obtain ⟨h1, h2, h3⟩ := appF_ok h hb c
      exact h.put h1 h2 h3 h.tick (tick_room S)
    · exact h.tick
  · exact h
/- a file of that name is another one, no longer -/
theorem Ok.again {S : St} (h : Ok S) {f g : Fl} (hf : fnd S.fs g.nm = some f) (hl : g.bs.length ≤ f.bs.length) (hs : g.sf ≤ g.bs.length) (hb : ∀ c ∈ g.bs, c ∈ f.bs) {T : St} (hT : Ok T) (hr : T.room = S.room) : Ok (Go.Proofs.YtcodihgjfhoepaaGreatDoor.withFs T (wi S.fs g)) := by
  have h1 := fnd_mem hf
  have h2 := h.file f h1.1
  have h3 := wi_some h.rise hf
  have := h.used
  have := h.many
  exact h.put ⟨by rw [← h1.2]; exact h2.n1, by rw [← h1.2]; exact h2.n2, hs, fun c hc => h2.bytes c (hb c hc)⟩ (by omega) (by omega) hT hr
theorem syn_fnd {S : St} {s : ByteArray} {f : Fl} (hf : fnd S.fs s = some f) : fnd S.fs (synF f).nm = some f := by show fnd S.fs f.nm = _; rw [(fnd_mem hf).2]; exact hf
theorem tru_fnd {S : St} {s : ByteArray} {f : Fl} (hf : fnd S.fs s = some f) (n : Nat) : fnd S.fs (truF f n).nm = some f := by show fnd S.fs f.nm = _; rw [(fnd_mem hf).2]; exact hf
theorem Ok.syn {S : St} (h : Ok S) (s : ByteArray) : Ok (synS S s) := by
  unfold synS
  split
  · split
    · rename_i f e
      exact h.again (f := f) (syn_fnd e) (Nat.le_refl _) (Nat.le_refl _) (fun _ hc => hc) h.begun (begun_room S)
    · exact h.begun
  · exact h.begun
theorem Ok.wo {S : St} (h : Ok S) (s : ByteArray) {T : St} (hT : Ok T) (hr : T.room = S.room) : Ok (Go.Proofs.YtcodihgjfhoepaaGreatDoor.withFs T (Go.Proofs.YtcodihgjfhoepaaGreatDoor.wo S.fs s)) := by
  have hu := h.used
  have hm := h.many
  refine hT.withFs (h.rise.wo s) ?_ ?_ (fun f hf => h.file f (mem_wo.1 hf).1)
  · rw [hr]
    cases e : fnd S.fs s with
    | none => rw [wo_none e]; exact hu
    | some f =>
      have h1 := fnd_mem e
      have := wo_some h.rise h1.1
      rw [h1.2] at this
      omega
  · cases e : fnd S.fs s with
    | none => rw [wo_none e]; exact hm
    | some f =>
      have h1 := fnd_mem e
      have := wo_some h.rise h1.1
      rw [h1.2] at this
      omega
theorem Ok.del {S : St} (h : Ok S) (s : ByteArray) : Ok (delS S s) := by
  unfold delS
  split
  · split
    · exact h.wo s h.begun (begun_room S)
    · exact h.begun
  · exact h.begun
theorem Ok.ren {S : St} (h : Ok S) (s t : ByteArray) : Ok (renS S s t) := by
  unfold renS
  split
  · split
    · rename_i ct
      split
      · rename_i f e
        obtain ⟨n1, n2⟩ := named_ok ct
        have h1 := fnd_mem e
        have h2 := h.file f h1.1
        have h3 := wo_some h.rise h1.1
        rw [h1.2] at h3
        have hw := h.wo s h (T := S) rfl
        have hu := h.used
        have hm := h.many
        have key : usd (wi (Go.Proofs.YtcodihgjfhoepaaGreatDoor.wo S.fs s) ⟨t, f.bs, f.sf⟩) ≤ S.room ∧ (wi (Go.Proofs.YtcodihgjfhoepaaGreatDoor.wo S.fs s) ⟨t, f.bs, f.sf⟩).length ≤ 256 := by
          cases e2 : fnd (Go.Proofs.YtcodihgjfhoepaaGreatDoor.wo S.fs s) t with
          | none =>
            have := wi_none (g := ⟨t, f.bs, f.sf⟩) e2
            simp only at this
            omega
          | some f2 =>
            have := wi_some (h.rise.wo s) (g := ⟨t, f.bs, f.sf⟩) e2
            simp only at this
            omega
        exact hw.put (S := Go.Proofs.YtcodihgjfhoepaaGreatDoor.withFs S (Go.Proofs.YtcodihgjfhoepaaGreatDoor.wo S.fs s)) (g := ⟨t, f.bs, f.sf⟩) ⟨n1, n2, h2.safe, h2.bytes⟩ key.1 key.2 h.begun (begun_room S)
      · exact h.begun
    · exact h.begun
  · exact h.begun
theorem Ok.tru {S : St} (h : Ok S) (s : ByteArray) (n : Int) : Ok (truS S s n) := by
  unfold truS
  split
  · split
    · rename_i f e
      split
      · have h2 := (h.file f (fnd_mem e).1).safe
        refine h.again (f := f) (tru_fnd e _) ?_ ?_ (fun c hc => List.mem_of_mem_take hc) h.begun (begun_room S)
        · show (f.bs.take _).length ≤ _
          rw [List.length_take]; omega
        · show min f.sf _ ≤ (f.bs.take _).length
          rw [List.length_take]; omega
      · exact h.begun
    · exact h.begun
  · exact h.begun
theorem wk_ok {f : Fl} (h : Okf f) (keep : List Int) (i : Nat) : Okf (wk keep i f) ∧ (wk keep i f).bs.length ≤ f.bs.length := by
  have h1 := mor_le keep i f h.safe
  refine ⟨⟨h.n1, h.n2, ?_, fun c hc => h.bytes c (List.mem_of_mem_take hc)⟩, ?_⟩
  · show f.sf + mor keep i f ≤ (f.bs.take _).length
    rw [List.length_take]; omega
  · show (f.bs.take _).length ≤ _
    rw [List.length_take]; omega
theorem wkL_ok (keep : List Int) {l : List Fl} (h : ∀ f ∈ l, Okf f) (i : Nat) : (∀ f ∈ wkL keep i l, Okf f) ∧ usd (wkL keep i l) ≤ usd l := by
  induction l generalizing i with
  | nil => exact ⟨h, Nat.le_refl _⟩
  | cons y l ih =>
    have h1 := wk_ok (h y List.mem_cons_self) keep i
    have h2 := ih (fun f hf => h f (List.mem_cons_of_mem _ hf)) (i + 1)
    refine ⟨fun f hf => ?_, ?_⟩
    · rcases List.mem_cons.1 hf with rfl | hf
      · exact h1.1
      · exact h2.1 f hf
    · simp only [usd, wkL, List.map_cons, List.sum_cons] at h2 ⊢
      omega
theorem Ok.woke {S : St} (h : Ok S) (keep : List Int) : Ok (woke S keep) := by
  unfold Go.Proofs.YtcodihgjfhoepaaGreatDoor.woke
  split
  · exact h
  · have h1 := wkL_ok keep h.file 0
    exact ⟨rise_names h.rise (wkL_names keep 0 S.fs), h.room, Nat.le_trans h1.2 h.used, by show (wkL keep 0 S.fs).length ≤ 256; rw [wkL_len]; exact h.many, h1.1, h.acts, h.part⟩
end Go.Proofs.YtcodihgjfhoepaaGreatDoor
