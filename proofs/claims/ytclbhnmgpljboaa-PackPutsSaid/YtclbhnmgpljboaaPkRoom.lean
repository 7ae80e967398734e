/- The contract of pack.room: a copy of bytes that has more places behind them. -/
import Derived.Test.YtclbhnmgpljboaaPkOwn
import Derived.Test.YtclbhnmgpljboaaPkMath
import Derived.Test.YtclbhnmgpljboaaRlP
import Derived.Laws.MakeOwn
import Derived.Lib.MinMax
namespace Go.Proofs.Ytclbhnmgpljboaa
open Go Go.RowKit Pk

theorem made_zeros (n : Nat) : (List.replicate n (Value.int .u8 0)).toArray = madeCells #[.int .u8 0] n := by
  apply Array.ext'; rw [toList_madeCells_one]
theorem size5 : (Try.prog.info? 5).map (·.size) = some 1 := by kernel_rfl

theorem run_mk (w : World) (l c : Nat) (hlc : l ≤ c) (hc : c ≤ 1000000) (C : Int) (hC : C = (c : Int)) :
    (Instr.makeSlice 22 (.int .i64 (l : Int)) (.int .i64 C)).run Try.prog w = .ok (.slice (some ⟨w.heap.size, 0, none⟩) l c) (w.alloc (.cells (madeCells #[.int .u8 0] c) 5)) := by
  obtain ⟨i, hi, hz, hs, hy⟩ := info5
  subst hC
  have := run_make (P := Try.prog) w 22 5 i (.int .u8 0) Try.underlying22 hi hz .i64 .i64 (l : Int) (c : Int) (by omega) (by omega) (by rw [hy]; omega) (by omega)
  rw [hs] at this
  simpa [Value.cells] using this

theorem src_of {w : World} {a : Option Addr} {l : List Int} (hb : Byt w a l) (hp : 0 < l.length) : ∃ ad, a = some ad ∧ ∀ j v, (l.map (Value.int .u8))[j]? = some v → w.cell? (ad.add j) = some v := by
  obtain ⟨b, off, rfl, _⟩ := hb.1 0 hp
  refine ⟨_, rfl, fun j v hj => ?_⟩
  have hjl : j < l.length := by
    rcases Nat.lt_or_ge j l.length with h | h
    · exact h
    · rw [List.getElem?_eq_none (by simpa using h)] at hj; cases hj
  obtain ⟨b', off', h, hc⟩ := hb.1 j hjl
  injection h with h
  injection h with h1 h2 _
  subst h1
  subst h2
  rw [add_plain, hc]
  simp [List.getElem?_eq_getElem hjl] at hj
  rw [← hj]
  simp [List.getElem?_eq_getElem hjl]
theorem cells_one {l : List Int} : ∀ v ∈ l.map (Value.int .u8), v.oneCell' = true := by
  intro u hu
  obtain ⟨x, _, rfl⟩ := List.mem_map.1 hu
  rfl

theorem wp_copy {ops : Array Oper} {rest : List Oper} {o : Oper} {a : Act} {Q : Exit → Act → World → Prop} (d s : Operand) (w : World) (hgd : o.guard = none)
    (hop : o.op = .call { callee := .builtin .copy, args := #[d, s], argTypes := #[22, 22] })
    (g n c : Nat) (A : Option Addr) (cap : Nat) (l : List Int) (hd : a.eval d = .slice (some ⟨g, 0, none⟩) n c) (hs : a.eval s = .slice A n cap) (hl : l.length = n)
    (hg : w.heap[g]? = some (.cells (madeCells #[.int .u8 0] c) 5)) (hb : Byt w A l) (hc : n ≤ c) (hm : c ≤ 1000000) (B : Nat) (w0 : World) (hb0 : Below B w0 w) (hBg : B ≤ g)
    (h : ∀ w', Own w' B (.slice (some ⟨g, 0, none⟩) n c) l → Below B w0 w' → wpList Try.prog ops Q rest (a.put o.dst (goInt n)) w') : wpList Try.prog ops Q (o :: rest) a w := by
  refine wpList_copy_splice hgd d s 22 22 hop 5 Try.underlying22 size5 _ _ n c n cap hd hs g 0 (List.replicate c (Value.int .u8 0)) 5 (by rw [made_zeros]; exact hg) (l.map (Value.int .u8)) (by simp [hl])
    (fun hp => ⟨rfl, src_of hb (by simpa using hp)⟩) (by simp [hl]; omega) cells_one B w0 hb0 hBg ?_
  intro w1 hg1 hb1
  rw [List.length_map, hl]
  exact h w1 (Own.made w1 g n c B hBg l hl hc hm hg1) hb1

set_option maxHeartbeats 400000 in
theorem room_any (a : Option Addr) (len cap : Nat) (l : List Int) (n : Nat) (w : World) (hl : l.length = len) (hm : len ≤ 100000) (hn : n ≤ 100000) (hb : Byt w a l) :
    Calls Try.prog 30 #[.slice a len cap, .int .i64 (n : Int)] w fun e w' => e = .returned (.slice (some ⟨w.heap.size, 0, none⟩) len (len + n)) ∧ Own w' w.heap.size (.slice (some ⟨w.heap.size, 0, none⟩) len (len + n)) l ∧ Below w.heap.size w w' := by
  have HL := Lib.hid hl
  have HB := Lib.hid hb
  have B0 := Lib.hid ((Below.refl w.heap.size w).alloc (Nat.le_refl _) (.cells (madeCells #[.int .u8 0] (len + n)) 5))
  clear hl hb
  go_enter Try.func30, Try.ntmps30
  have mk := run_mk w len (len + n) (by omega) (by omega) ((len : Int) + (n : Int)) (by omega)
  go_wp2_with ((with_reducible show wpList _ _ _ (Oper.mk (some 15) _ _ _ _ _ :: _) _ _); refine wp_copy (.tmp 13) (.tmp 14) _ rfl rfl w.heap.size len (len + n) a cap l rfl rfl HL.out (heap_alloc_new w _) (HB.out.below B0.out) (by omega) (by omega) w.heap.size w B0.out (Nat.le_refl _) ?_; intro w1 ho1 hb1)
  go_ret
  exact ⟨rfl, ho1, hb1⟩
end Go.Proofs.Ytclbhnmgpljboaa
