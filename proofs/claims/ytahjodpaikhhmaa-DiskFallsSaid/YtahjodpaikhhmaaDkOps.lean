/- Operations that come in, and as many of them as are gone through. -/
import Derived.Test.YtahjodpaikhhmaaDkFix
namespace Go.Proofs.Ytahjodpaikhhmaa
open Go Go.RowKit
set_option maxRecDepth 20000

structure OP where
  q : Int
  nm : ByteArray
  nt : ByteArray
  ba : Option Addr
  bn : Nat
  bc : Nat
  n : Int
  k : Int
  ka : Option Addr
  kn : Nat
  kc : Nat
def oz : OP := ⟨0, ⟨#[]⟩, ⟨#[]⟩, none, 0, 0, 0, 0, none, 0, 0⟩
instance : Inhabited OP := ⟨oz⟩
abbrev opc (o : OP) : Array Value := #[.int .i64 o.q, .string o.nm, .string o.nt, .slice o.ba o.bn o.bc, .int .i64 o.n, .int .i64 o.k, .slice o.ka o.kn o.kc]
structure Oko (w : World) (o : OP) : Prop where
  nm : o.nm.size ≤ 140737488355328
  nt : o.nt.size ≤ 140737488355328
  bs : ∃ l : List Int, l.length = o.bn ∧ Byt w o.ba l
  bcap : o.bn ≤ o.bc
  bz : o.ba = none → o.bc = 0
  ks : ∃ l : List Int, l.length = o.kn ∧ Ints w o.ka l
  kcap : o.kn ≤ o.kc
  kz : o.ka = none → o.kc = 0
  n1 : o.n ≤ 9223372036854775807
  k1 : o.k ≤ 9223372036854775807
  b47 : o.bn ≤ 140737488355328
  k47 : o.kn ≤ 140737488355328
theorem Oko.below {w w' : World} {o : OP} (h : Oko w o) (hb : Below w.heap.size w w') : Oko w' o := by
  obtain ⟨l, h1, h2⟩ := h.bs
  obtain ⟨k, h3, h4⟩ := h.ks
  exact ⟨h.nm, h.nt, ⟨l, h1, h2.below hb⟩, h.bcap, h.bz, ⟨k, h3, h4.below hb⟩, h.kcap, h.kz, h.n1, h.k1, h.b47, h.k47⟩
def Opr (w : World) (A : Option Addr) (O : List OP) : Prop := ∀ i, i < O.length → ∃ b off, A = some ⟨b, off, none⟩ ∧ w.cell? ⟨b, off + i * 7, none⟩ = some (.int .i64 (O.getD i oz).q) ∧
  w.cell? ⟨b, off + i * 7 + 1, none⟩ = some (.string (O.getD i oz).nm) ∧ w.cell? ⟨b, off + i * 7 + 2, none⟩ = some (.string (O.getD i oz).nt) ∧
  w.cell? ⟨b, off + i * 7 + 3, none⟩ = some (.slice (O.getD i oz).ba (O.getD i oz).bn (O.getD i oz).bc) ∧ w.cell? ⟨b, off + i * 7 + 4, none⟩ = some (.int .i64 (O.getD i oz).n) ∧
  w.cell? ⟨b, off + i * 7 + 5, none⟩ = some (.int .i64 (O.getD i oz).k) ∧ w.cell? ⟨b, off + i * 7 + 6, none⟩ = some (.slice (O.getD i oz).ka (O.getD i oz).kn (O.getD i oz).kc)
theorem Opr.below {w w' : World} {A : Option Addr} {O : List OP} (h : Opr w A O) (hb : Below w.heap.size w w') : Opr w' A O := fun i hi => by
  obtain ⟨b, off, e, c0, c1, c2, c3, c4, c5, c6⟩ := h i hi
  exact ⟨b, off, e, (hb.cell (World.block_lt_of_cell? _ _ c0)).trans c0, (hb.cell (World.block_lt_of_cell? _ _ c1)).trans c1, (hb.cell (World.block_lt_of_cell? _ _ c2)).trans c2, (hb.cell (World.block_lt_of_cell? _ _ c3)).trans c3,
    (hb.cell (World.block_lt_of_cell? _ _ c4)).trans c4, (hb.cell (World.block_lt_of_cell? _ _ c5)).trans c5, (hb.cell (World.block_lt_of_cell? _ _ c6)).trans c6⟩
def Small (o : OP) : Prop := o.bn ≤ 8000 ∧ o.kn ≤ 300
def Cutted (w : World) (A : Option Addr) (N c : Nat) (O : List OP) (e : Ending) (w' : World) : Prop :=
  ∃ n, e = .returned (.slice A n c) ∧ n ≤ N ∧ n ≤ 151 ∧ (∀ j, j < n → Small (O.getD j oz)) ∧ Below w.heap.size w w'
set_option maxHeartbeats 4000000 in
theorem cut_any (w : World) (A : Option Addr) (N c : Nat) (O : List OP) (hl : O.length = N) (hO : Opr w A O) (hok : ∀ i, i < N → (O.getD i oz).nm.size ≤ 140737488355328 ∧ (O.getD i oz).nt.size ≤ 140737488355328 ∧ (O.getD i oz).bn ≤ 140737488355328 ∧ (O.getD i oz).kn ≤ 140737488355328) (hc : N ≤ c) (hN : N ≤ 140737488355328) :
    Calls Try.prog 7 #[.slice A N c] w (Cutted w A N c O) := by
  have HL := Lib.hid hl
  have HO := Lib.hid hO
  have HK := Lib.hid hok
  clear hl hO hok
  go_enter Try.func7, Try.ntmps7
  go_wp2_with fail
  go_loopw [8, 3] (fun s t wr => ∃ (i n : Nat), s = .int .i64 i ∧ t = .int .i64 n ∧ i ≤ N ∧ i ≤ 151 ∧ n ≤ 8000 ∧ Hid ((∀ j, j < i → Small (O.getD j oz)) ∧ Below w.heap.size w wr)) (fun s _ _ => N - (intOf s).toNat)
  case atStart => exact ⟨0, 0, rfl, rfl, by omega, by omega, by omega, fun j hj => by omega, Below.refl _ _⟩
  case round =>
    obtain ⟨i, n, rfl, rfl, hi, hi2, hn, H⟩ := hrel
    by_cases ci : i < N
    · obtain ⟨b, off, rfl, x0, x1, x2, x3, x4, x5, x6⟩ := (HO.out.below H.out.2) i (by rw [HL.out]; exact ci)
      obtain ⟨k1, k2, k3, k4⟩ := HK.out i ci
      have SM := Lib.hid (fun (h1 : (O.getD i oz).bn ≤ 8000) (h2 : (O.getD i oz).kn ≤ 300) => (show ∀ j, j < i + 1 → Small (O.getD j oz) from fun j hj => by
        rcases Nat.lt_or_ge j i with e | e
        · exact H.out.1 j e
        · have : j = i := by omega
          subst this
          exact ⟨h1, h2⟩))
      have S0 := Lib.hid H.out.1
      have BB := Lib.hid H.out.2
      have hbl : b < wr.heap.size := World.block_lt_of_cell? _ _ x0
      have ci' : (i : Int) < (N : Int) := by omega
      have ci0 : (0 : Int) ≤ (i : Int) := by omega
      have cic : (i : Int) ≤ (c : Int) := by omega
      clear H
      generalize O.getD i oz = o at *
      obtain ⟨q, nm, nt, ba, bn, bc, on, ok, ka, kn, kc⟩ := o
      simp only at x0 x1 x2 x3 x4 x5 x6 k1 k2 k3 k4 SM
      have m1 : min (bn : Int) 9000 = ((min bn 9000 : Nat) : Int) := by omega
      have m2 : min ((nm.size : Int) + (nt.size : Int)) 9000 = ((min (nm.size + nt.size) 9000 : Nat) : Int) := by omega
      obtain ⟨p1, hp1⟩ : ∃ p1, min bn 9000 = p1 := ⟨_, rfl⟩
      obtain ⟨p2, hp2⟩ : ∃ p2, min (nm.size + nt.size) 9000 = p2 := ⟨_, rfl⟩
      rw [hp1] at m1
      rw [hp2] at m2
      have hp1' : p1 ≤ 9000 := by omega
      have hp2' : p2 ≤ 9000 := by omega
      have hbn : p1 ≤ 8000 → bn ≤ 8000 := by omega
      have HBN := Lib.hid hbn
      clear hbn hp1 hp2
      by_cases c1 : 150 < i
      · have c1' : (150 : Int) < (i : Int) := by omega
        go_wp2_with fail
        go_ret
        exact ⟨i, rfl, by omega, by omega, S0.out, BB.out.trans ((below_alloc _ _).mono BB.out.size)⟩
      · have c1' : ¬ (150 : Int) < (i : Int) := by omega
        by_cases c2 : 8000 < n + (p1 + p2)
        · have c2' : (8000 : Int) < (n : Int) + ((p1 : Int) + (p2 : Int)) := by omega
          go_wp2_with fail
          go_ret
          exact ⟨i, rfl, by omega, by omega, S0.out, BB.out.trans ((below_alloc _ _).mono BB.out.size)⟩
        · have c2' : ¬ (8000 : Int) < (n : Int) + ((p1 : Int) + (p2 : Int)) := by omega
          by_cases c3 : 300 < kn
          · have c3' : (300 : Int) < (kn : Int) := by omega
            go_wp2_with fail
            go_ret
            exact ⟨i, rfl, by omega, by omega, S0.out, BB.out.trans ((below_alloc _ _).mono BB.out.size)⟩
          · have c3' : ¬ (300 : Int) < (kn : Int) := by omega
            go_wp2_with fail
            go_roundw
            case rel => exact ⟨i + 1, n + (p1 + p2), by go_num, by go_num, by omega, by omega, by omega, SM.out (HBN.out (by omega)) (by omega), BB.out.trans ((below_alloc _ _).mono BB.out.size)⟩
            case measure => simp [intOf]; omega
    · obtain rfl : i = N := by omega
      have S0 := Lib.hid H.out.1
      have BB := Lib.hid H.out.2
      clear H ci
      go_wp2_with fail
      go_ret
      exact ⟨i, rfl, by omega, by omega, S0.out, BB.out⟩
end Go.Proofs.Ytahjodpaikhhmaa
