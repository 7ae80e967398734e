/- The contracts of rec.Size, read, sum, write. -/
import Derived.Test.YtcodihgjfhoepaaGreatDoorRcA
import Derived.Test.YtcodihgjfhoepaaGreatDoorRcFr
import Derived.LoopN
namespace Go.Proofs.YtcodihgjfhoepaaGreatDoor
open Go Go.RowKit Crc
set_option maxRecDepth 20000

theorem Byt.takeR {w : World} {A : Option Addr} {l : List Int} (h : Byt w A l) (n : Nat) : Byt w A (l.take n) := by
  refine ⟨fun i hi => ?_, fun c hc => h.2 c (List.mem_of_mem_take hc)⟩
  rw [List.length_take] at hi
  obtain ⟨b, off, e, hc⟩ := h.1 i (by omega)
  refine ⟨b, off, e, ?_⟩
  rw [hc]
  have : i < n := by omega
  simp [List.getD_eq_getElem?_getD, this]
theorem byt_drop {w : World} {b off : Nat} {l : List Int} (hb : Byt w (some ⟨b, off, none⟩) l) (k : Nat) : Byt w (some ⟨b, off + k, none⟩) (l.drop k) := by
  refine ⟨fun i hi => ⟨b, off + k, rfl, ?_⟩, fun c hc => hb.2 c (List.mem_of_mem_drop hc)⟩
  rw [List.length_drop] at hi
  obtain ⟨b', off', e, hc⟩ := hb.1 (k + i) (by omega)
  injection e with e
  injection e with e1 e2 _
  subst e1
  subst e2
  rw [Nat.add_assoc, hc]
  congr 2
  simp [List.getD_eq_getElem?_getD]

theorem size_any (a : Option Addr) (n c : Nat) (w : World) (hn : n ≤ 1000000) :
    Calls Tryz.prog 110 #[.slice a n c] w fun e w' => e = .returned (.int .i64 ((8 + n : Nat) : Int)) ∧ w = w' := by
  go_enter Tryz.func110, Tryz.ntmps110
  go_wp2
  go_ret
  exact ⟨by simp, rfl⟩

def nmk : Nat → List Int → Nat
  | 0, _ => 0
  | k + 1, l => nmk k l * 256 + (l.getD k 0).toNat
theorem nmk_four (l : List Int) : nmk 4 l = nm l := by simp [nmk, nm]
theorem nmk_lt (l : List Int) (hr : Rng l) (k : Nat) (hk : k ≤ 4) : nmk k l < 256 ^ k := by
  induction k with
  | zero => simp [nmk]
  | succ k ih =>
    have := ih (by omega)
    have h : (l.getD k 0).toNat < 256 := by
      rcases Nat.lt_or_ge k l.length with hi | hi
      · rw [List.getD_eq_getElem?_getD, List.getElem?_eq_getElem hi, Option.getD_some]
        have := hr _ (List.getElem_mem hi)
        omega
      · rw [List.getD_eq_getElem?_getD, List.getElem?_eq_none hi]; decide
    rw [nmk, Nat.pow_succ]; omega
theorem or_low (x c : Nat) (hx : x < 16777216) (hc : c < 256) : bits .or .u32 ((x : Int) * 256) (c : Int) = ((x * 256 + c : Nat) : Int) := by
  have e : (x : Int) * 256 = ((x * 256 : Nat) : Int) := by omega
  rw [e, u32_or_nat _ _ (by omega) (by omega)]
  congr 1
  have := Nat.shiftLeft_add_eq_or_of_lt (i := 8) (b := c) (by omega) x
  rw [Nat.shiftLeft_eq, show (2 : Nat) ^ 8 = 256 from rfl] at this
  exact this.symm

set_option maxHeartbeats 400000 in
theorem read_any (a : Option Addr) (len cap : Nat) (l : List Int) (w : World) (hl : l.length = len) (h4 : 4 ≤ len) (hc : len ≤ cap) (hb : Byt w a l) :
    Calls Tryz.prog 145 #[.slice a len cap] w fun e w' => e = .returned (.int .u32 (nm l : Int)) ∧ w = w' := by
  have HN := Lib.hid (nmk_four l)
  have HK := Lib.hid (nmk_lt l hb.2)
  have hc4 : (4 : Int) ≤ (cap : Int) := by omega
  obtain ⟨b, off, rfl, _⟩ := hb.1 0 (by omega)
  have HB := Lib.hid hb
  have HL := Lib.hid hl
  clear hb hl
  go_enter Tryz.func145, Tryz.ntmps145
  go_wp2
  go_loop [3, 9] (fun t i => ∃ k : Nat, k ≤ 4 ∧ i = .int .i64 k ∧ t = .int .u32 (nmk k l : Int)) (fun _ i => 4 - (intOf i).toNat)
  case atStart => exact ⟨0, by omega, rfl, rfl⟩
  case round =>
    obtain ⟨k, hk, rfl, rfl⟩ := hrel
    by_cases hlt : k < 4
    · obtain ⟨b', off', e, hcell⟩ := HB.out.1 k (by rw [HL.out]; omega)
      injection e with e
      injection e with e1 e2 _
      subst e1
      subst e2
      have hr := HB.out.2 (l.getD k 0) (by rw [List.getD_eq_getElem?_getD, List.getElem?_eq_getElem (by rw [HL.out]; omega)]; exact List.getElem_mem _)
      have hx : nmk k l < 16777216 := by
        have := HK.out k hk
        have : 256 ^ k ≤ 256 ^ 3 := Nat.pow_le_pow_right (by omega) (by omega)
        omega
      have hstep := Lib.hid (show nmk (k + 1) l = nmk k l * 256 + (l.getD k 0).toNat from rfl)
      generalize l.getD k 0 = c at hcell hr hstep
      generalize nmk k l = x at hx hstep
      obtain ⟨y, rfl⟩ : ∃ y : Nat, c = y := ⟨c.toNat, by omega⟩
      have ho := or_low x y hx (by omega)
      have E := Lib.hid (show nmk (k + 1) l = x * 256 + y by rw [hstep.out]; simp)
      obtain ⟨z, hz⟩ : ∃ z, x * 256 + y = z := ⟨_, rfl⟩
      rw [hz] at ho E
      clear hstep hz
      obtain ⟨r0, r1⟩ := hr
      go_wp2
      go_round
      case rel => exact ⟨k + 1, by omega, by go_num, by rw [E.out]⟩
      case measure => simp [intOf]; omega
    · have E := Lib.hid (show nmk k l = nm l by rw [← HN.out, show k = 4 by omega])
      go_wp2
      go_ret
      exact ⟨ret_u32 (by rw [E.out]), rfl⟩

set_option maxHeartbeats 400000 in
theorem rsum8_any (a c : Option Addr) (len cap m k : Nat) (l r : List Int) (w : World) (hl : l.length = len) (h4 : 4 ≤ len) (hc : len ≤ cap) (hb : Byt w a l) (hm : r.length = m) (hmx : m ≤ 1000000) (hr : Byt w c r) (ht : Tab w) :
    Calls Tryz.prog 112 #[.slice a len cap, .slice c m k] w fun e w' => e = .returned (.int .u32 (sm (l.take 4) r : Int)) ∧ w = w' := by
  have hc4 : (4 : Int) ≤ (cap : Int) := by omega
  have C1 := Lib.hid (sum_any a 4 cap (l.take 4) w (by rw [List.length_take]; omega) (by unfold maxLen; omega) (hb.takeR 4) ht)
  have C2 := Lib.hid (more_any c m k r (sum 0#32 (l.take 4)) w hm (by unfold maxLen; omega) hr ht)
  have E := Lib.hid (sum_append (l.take 4) r)
  clear hl hb hm hr ht
  go_enter Tryz.func112, Tryz.ntmps112
  go_wp2_with fail
  refine C1.out.mono ?_
  rintro e w' ⟨rfl, rfl⟩
  go_wp2_with fail
  refine C2.out.mono ?_
  rintro e w' ⟨rfl, rfl⟩
  go_wp2
  go_ret
  exact ⟨ret_u32 (by rw [E.out]; rfl), rfl⟩

theorem set4 (P S : List Int) (x0 x1 x2 x3 y0 y1 y2 y3 : Int) : ((((P ++ ([x0, x1, x2, x3] ++ S)).set (P.length + 0) y0).set (P.length + 1) y1).set (P.length + 2) y2).set (P.length + 3) y3 = P ++ ([y0, y1, y2, y3] ++ S) := by
  simp
theorem u8_wrap (n : Nat) : IntKind.u8.wrap (n : Int) = ((n % 256 : Nat) : Int) := by
  rw [IntKind.wrap_u8']; omega

set_option maxHeartbeats 1000000 in
theorem write_any (B g off n c N : Nat) (P S : List Int) (x0 x1 x2 x3 : Int) (w : World) (T cap : Nat) (ho : Own w B (.slice (some ⟨g, 0, none⟩) T cap) (P ++ ([x0, x1, x2, x3] ++ S))) (hP : P.length = off) (hT : (P ++ ([x0, x1, x2, x3] ++ S)).length = T) (hn : 4 ≤ n) (hN : N < 4294967296) (hB : B ≤ g) :
    Calls Tryz.prog 111 #[.slice (some ⟨g, off, none⟩) n c, .int .u32 (N : Int)] w fun e w' => e = .returned (.tuple #[]) ∧ Own w' B (.slice (some ⟨g, 0, none⟩) T cap) (P ++ (by4 N ++ S)) ∧ Below B w w' := by
  have hlen : off + 4 ≤ T := by rw [← hT, ← hP]; simp
  have c0 := ho.cell hT (off + 0) (by omega)
  have c1 := ho.cell hT (off + 1) (by omega)
  have c2 := ho.cell hT (off + 2) (by omega)
  have c3 := ho.cell hT (off + 3) (by omega)
  have f0 := ho.frozen hT (off + 0)
  have f1 := ho.frozen hT (off + 1)
  have f2 := ho.frozen hT (off + 2)
  have f3 := ho.frozen hT (off + 3)
  have O := Lib.hid ho
  have HP := Lib.hid hP
  have HT := Lib.hid hT
  clear ho hP hT
  generalize (P ++ ([x0, x1, x2, x3] ++ S)).getD (off + 0) 0 = v0 at c0
  generalize (P ++ ([x0, x1, x2, x3] ++ S)).getD (off + 1) 0 = v1 at c1
  generalize (P ++ ([x0, x1, x2, x3] ++ S)).getD (off + 2) 0 = v2 at c2
  generalize (P ++ ([x0, x1, x2, x3] ++ S)).getD (off + 3) 0 = v3 at c3
  rw [Nat.add_zero] at c0 f0
  have n1 : (1 : Int) < (n : Int) := by omega
  have n2 : (2 : Int) < (n : Int) := by omega
  have n3 : (3 : Int) < (n : Int) := by omega
  go_enter Tryz.func111, Tryz.ntmps111
  go_wp2
  refine wp_loop_rounds 5 ?_
  rw [rounds_succ]
  go_wp2
  rw [rounds_succ]
  go_wp2
  rw [rounds_succ]
  go_wp2
  rw [rounds_succ]
  go_wp2
  rw [rounds_succ]
  go_wp2
  go_end0
  have e := set4 P S x0 x1 x2 x3 ((N : Int) / 16777216) ((N : Int) / 65536 % 256) ((N : Int) / 256 % 256) ((N : Int) % 256)
  rw [HP.out, Nat.add_zero] at e
  have b4 : by4 N = [(N : Int) / 16777216, (N : Int) / 65536 % 256, (N : Int) / 256 % 256, (N : Int) % 256] := by
    simp only [by4, List.cons.injEq, and_true]
    refine ⟨?_, ?_, ?_, ?_⟩ <;> omega
  refine ⟨rfl, ?_, ?_⟩
  · rw [b4, ← e]
    exact (((O.out.stored HT.out off _).stored (by rw [List.length_set]; exact HT.out) (off + 1) _).stored (by rw [List.length_set, List.length_set]; exact HT.out) (off + 2) _).stored (by rw [List.length_set, List.length_set, List.length_set]; exact HT.out) (off + 3) _
  · exact ((((Below.refl B w).setCell (p := ⟨g, off, none⟩) hB _).setCell (p := ⟨g, off + 1, none⟩) hB _).setCell (p := ⟨g, off + 2, none⟩) hB _).setCell (p := ⟨g, off + 3, none⟩) hB _
end Go.Proofs.YtcodihgjfhoepaaGreatDoor
