/- A log told by lists: its files' names, its manifest, and what each call makes of it and of its disk. No program. -/
import Derived.Test.YtcodihgjfhoepaaGreatDoorDkMath
import Derived.Test.YtcodihgjfhoepaaGreatDoorRcFr
import Derived.Test.YtcodihgjfhoepaaGreatDoorLbGetSays
import Derived.Lib.ItoaLen
namespace Go.Proofs.YtcodihgjfhoepaaGreatDoor
open Go Go.RowKit Crc Pk
set_option maxRecDepth 20000

/- names -/
def fn (nm t : ByteArray) : ByteArray := ⟨(nl nm ++ 46 :: nl t).toArray⟩
def dc (n : Nat) : ByteArray := ⟨(Lib.decDigits n).toArray⟩
abbrev sT : ByteArray := ⟨#[116]⟩
abbrev sM : ByteArray := ⟨#[109]⟩
abbrev fT (nm : ByteArray) : ByteArray := fn nm sT
abbrev fM (nm : ByteArray) : ByteArray := fn nm sM
abbrev fS (nm : ByteArray) (n : Nat) : ByteArray := fn nm (dc n)
theorem nl_fn (nm t : ByteArray) : nl (fn nm t) = nl nm ++ 46 :: nl t := by simp [nl, fn]
theorem nl_dc (n : Nat) : nl (dc n) = Lib.decDigits n := by simp [nl, dc]
theorem fn_inj {nm s t : ByteArray} (h : fn nm s = fn nm t) : s = t := by
  have : nl (fn nm s) = nl (fn nm t) := by rw [h]
  rw [nl_fn, nl_fn] at this
  have := List.append_cancel_left this
  injection this with _ h2
  exact nl_inj h2
def val (l : List UInt8) : Nat := l.foldl (fun a c => a * 10 + (c.toNat - 48)) 0
theorem val_snoc (l : List UInt8) (c : UInt8) : val (l ++ [c]) = val l * 10 + (c.toNat - 48) := by simp [val]
theorem dig_nat (u : Nat) (h : u < 10) : (UInt8.ofNat (48 + u)).toNat = 48 + u := by
  rw [UInt8.toNat_ofNat']; omega
theorem val_dec (n : Nat) : val (Lib.decDigits n) = n := by
  induction n using Nat.strongRecOn with
  | _ u ih =>
    rw [Lib.decDigits]
    by_cases h : u < 10
    · rw [dif_pos h]
      show 0 * 10 + ((UInt8.ofNat (48 + u)).toNat - 48) = u
      rw [dig_nat u h]; omega
    · rw [dif_neg h, val_snoc, ih (u / 10) (by omega), dig_nat _ (by omega)]; omega
theorem dec_inj {n m : Nat} (h : Lib.decDigits n = Lib.decDigits m) : n = m := by rw [← val_dec n, ← val_dec m, h]
theorem dec_digits (n : Nat) : ∀ c ∈ Lib.decDigits n, 48 ≤ c.toNat ∧ c.toNat ≤ 57 := by
  induction n using Nat.strongRecOn with
  | _ u ih =>
    rw [Lib.decDigits]
    intro c hc
    by_cases h : u < 10
    · rw [dif_pos h] at hc
      rw [List.mem_singleton.1 hc, dig_nat u h]; omega
    · rw [dif_neg h] at hc
      rcases List.mem_append.1 hc with hc | hc
      · exact ih (u / 10) (by omega) c hc
      · rw [List.mem_singleton.1 hc, dig_nat _ (by omega)]; omega
theorem dec_ne (n : Nat) : Lib.decDigits n ≠ [] := fun h => by
  have := Lib.decDigits_length n
  rw [h] at this
  have h2 := Lib.nDigits_pos n
  simp at this
  omega
theorem dec_len (n : Nat) (h : n < 18446744073709551616) : (Lib.decDigits n).length ≤ 20 := by rw [Lib.decDigits_length]; exact Lib.nDigits_le20 n h
theorem dc_inj {n m : Nat} (h : dc n = dc m) : n = m := dec_inj (by rw [← nl_dc, ← nl_dc, h])
theorem fS_inj {nm : ByteArray} {n m : Nat} (h : fS nm n = fS nm m) : n = m := dc_inj (fn_inj h)
theorem fS_ne_letter {nm : ByteArray} {n : Nat} {c : UInt8} (hc : 57 < c.toNat) : fS nm n ≠ fn nm ⟨#[c]⟩ := fun h => by
  have := fn_inj h
  have h2 : nl (dc n) = [c] := by rw [this]
  rw [nl_dc] at h2
  have := dec_digits n c (by rw [h2]; simp)
  omega
theorem fS_fT {nm : ByteArray} {n : Nat} : fS nm n ≠ fT nm := fS_ne_letter (by decide)
theorem fS_fM {nm : ByteArray} {n : Nat} : fS nm n ≠ fM nm := fS_ne_letter (by decide)
theorem fT_fM {nm : ByteArray} : fT nm ≠ fM nm := fun h => by
  have := fn_inj h
  cases this
theorem size_nl (s : ByteArray) : s.size = (nl s).length := by simp [nl]
theorem size_fn (nm t : ByteArray) : (fn nm t).size = nm.size + 1 + t.size := by
  rw [size_nl, nl_fn, List.length_append, List.length_cons, ← size_nl, ← size_nl]; omega
theorem size_dc (n : Nat) : (dc n).size = (Lib.decDigits n).length := by rw [size_nl, nl_dc]
theorem named_fn {nm t : ByteArray} (h : nm.size ≤ 8) (ht : t.size ≤ 20) : named (fn nm t) = true := by
  have := size_fn nm t
  unfold named
  simp only [Bool.and_eq_true, decide_eq_true_eq]; omega
theorem named_fS {nm : ByteArray} {n : Nat} (h : nm.size ≤ 8) (hn : n < 18446744073709551616) : named (fS nm n) = true := named_fn h (by rw [size_dc]; exact dec_len n hn)
theorem named_fT {nm : ByteArray} (h : nm.size ≤ 8) : named (fT nm) = true := named_fn h (by decide)
theorem named_fM {nm : ByteArray} (h : nm.size ≤ 8) : named (fM nm) = true := named_fn h (by decide)
theorem app_dot (nm t : ByteArray) : nm ++ ⟨#[46]⟩ ++ t = fn nm t := nl_inj (by rw [nl_fn]; simp [nl, ByteArray.toList_data_append])
/- the manifest -/
def man (st : List Nat) : List Int := wrt st.length ++ st.flatMap wrt
theorem man_rng (st : List Nat) : Rng (man st) := by
  intro c hc
  rcases List.mem_append.1 hc with h | h
  · exact wrt_range _ c h
  · obtain ⟨n, _, h⟩ := List.mem_flatMap.1 h
    exact wrt_range _ c h
theorem flat_len (st : List Nat) (h : ∀ n ∈ st, n < 18446744073709551616) : (st.flatMap wrt).length ≤ st.length * 10 := by
  induction st with
  | nil => simp
  | cons a l ih =>
    have h1 := wrt_ten a (h a List.mem_cons_self)
    have h2 := ih (fun n hn => h n (List.mem_cons_of_mem _ hn))
    rw [List.flatMap_cons, List.length_append, List.length_cons]; omega
theorem man_len (st : List Nat) (h : ∀ n ∈ st, n < 18446744073709551616) (hl : st.length ≤ 2000) : (man st).length ≤ 20010 := by
  have := flat_len st h
  have h2 := wrt_ten st.length (by omega)
  unfold man
  rw [List.length_append]; omega
/- a log -/
structure Lg where
  st : List Nat
  rc : List (List Int)
  sz : Nat
  sf : Nat
  gn : Bool
def Lg.bas (L : Lg) : Nat := L.st.headD 0
def Lg.fin (L : Lg) : Nat := L.bas + L.rc.length
def Lg.lst (L : Lg) : Nat := L.st.getLastD 0
def Lg.go (L : Lg) (b : Bool) : Lg := ⟨L.st, L.rc, L.sz, L.sf, b⟩
/- Delete, whether there is a file or not -/
def drp (S : St) (f : ByteArray) : Nat := if delE S f = 8 then 0 else delE S f
/- the manifest is written -/
def tel (nm : ByteArray) (st : List Nat) (S : St) : Nat × St :=
  if drp S (fT nm) ≠ 0 then (drp S (fT nm), delS S (fT nm)) else
  if appE (delS S (fT nm)) (fT nm) (fr (man st)) ≠ 0 then (appE (delS S (fT nm)) (fT nm) (fr (man st)), appS (delS S (fT nm)) (fT nm) (fr (man st))) else
  if synE (appS (delS S (fT nm)) (fT nm) (fr (man st))) (fT nm) ≠ 0 then
    (synE (appS (delS S (fT nm)) (fT nm) (fr (man st))) (fT nm), synS (appS (delS S (fT nm)) (fT nm) (fr (man st))) (fT nm)) else
  (renE (synS (appS (delS S (fT nm)) (fT nm) (fr (man st))) (fT nm)) (fT nm) (fM nm), renS (synS (appS (delS S (fT nm)) (fT nm) (fr (man st))) (fT nm)) (fT nm) (fM nm))
structure Rs3 where
  e : Nat
  l : Lg
  s : St
def synL (nm : ByteArray) (L : Lg) (S : St) : Rs3 :=
  if L.sf = L.fin then ⟨0, L, S⟩ else
  if synE S (fS nm L.lst) ≠ 0 then ⟨synE S (fS nm L.lst), L.go true, synS S (fS nm L.lst)⟩ else
  ⟨0, ⟨L.st, L.rc, L.sz, L.fin, L.gn⟩, synS S (fS nm L.lst)⟩
def begL (nm : ByteArray) (L : Lg) (S : St) : Rs3 :=
  if (synL nm L S).e ≠ 0 then synL nm L S else
  if (tel nm (L.st ++ [L.fin]) (synL nm L S).s).1 ≠ 0 then
    ⟨(tel nm (L.st ++ [L.fin]) (synL nm L S).s).1, (synL nm L S).l.go (decide ((tel nm (L.st ++ [L.fin]) (synL nm L S).s).1 = 9)), (tel nm (L.st ++ [L.fin]) (synL nm L S).s).2⟩ else
  ⟨0, ⟨L.st ++ [L.fin], L.rc, 0, L.fin, L.gn⟩, (tel nm (L.st ++ [L.fin]) (synL nm L S).s).2⟩
def addL (nm : ByteArray) (L : Lg) (S : St) (r : List Int) : Rs3 :=
  if appE S (fS nm L.lst) (fr r) ≠ 0 then ⟨appE S (fS nm L.lst) (fr r), L.go (decide (appE S (fS nm L.lst) (fr r) = 9)), appS S (fS nm L.lst) (fr r)⟩ else
  ⟨0, ⟨L.st, L.rc ++ [r], L.sz + (8 + r.length), L.sf, L.gn⟩, appS S (fS nm L.lst) (fr r)⟩
def putL (nm : ByteArray) (most : Nat) (L : Lg) (S : St) (r : List Int) : Rs3 :=
  if L.gn then ⟨9, L, S⟩ else
  if most ≤ L.sz then (if (begL nm L S).e ≠ 0 then begL nm L S else addL nm (begL nm L S).l (begL nm L S).s r) else addL nm L S r
def synC (nm : ByteArray) (L : Lg) (S : St) : Rs3 := if L.gn then ⟨9, L, S⟩ else synL nm L S
/- how many segments go -/
def goN : List Nat → Nat → Nat
  | _ :: b :: t, n => if b ≤ n then goN (b :: t) n + 1 else 0
  | _, _ => 0
def dls (nm : ByteArray) : List Nat → St → Nat × St
  | [], S => (0, S)
  | a :: t, S => if drp S (fS nm a) ≠ 0 then (drp S (fS nm a), delS S (fS nm a)) else dls nm t (delS S (fS nm a))
def Lg.cut (L : Lg) (k : Nat) : Lg := ⟨L.st.drop k, L.rc.drop (L.st.getD k 0 - L.bas), L.sz, L.sf, L.gn⟩
def trmL (nm : ByteArray) (L : Lg) (S : St) (n : Nat) : Rs3 :=
  if L.gn then ⟨9, L, S⟩ else
  if goN L.st n = 0 then ⟨0, L, S⟩ else
  if (tel nm (L.st.drop (goN L.st n)) S).1 ≠ 0 then
    ⟨(tel nm (L.st.drop (goN L.st n)) S).1, L.go (decide ((tel nm (L.st.drop (goN L.st n)) S).1 = 9)), (tel nm (L.st.drop (goN L.st n)) S).2⟩ else
  ⟨(dls nm (L.st.take (goN L.st n)) (tel nm (L.st.drop (goN L.st n)) S).2).1,
    (L.cut (goN L.st n)).go (decide ((dls nm (L.st.take (goN L.st n)) (tel nm (L.st.drop (goN L.st n)) S).2).1 = 9)),
    (dls nm (L.st.take (goN L.st n)) (tel nm (L.st.drop (goN L.st n)) S).2).2⟩
end Go.Proofs.YtcodihgjfhoepaaGreatDoor
