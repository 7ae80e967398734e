/- The chapter's example. -/
import Derived.Test.YteiajbeoglmmmaaDoorRcD
import Derived.Test.YteiajbeoglmmmaaDoorRcE
import Derived.Test.YteiajbeoglmmmaaDoorRcF
import Derived.Lib.SlBytesConst
namespace Go.Proofs.YteiajbeoglmmmaaDoor
open Go Go.RowKit Crc
set_option maxRecDepth 20000

set_option maxHeartbeats 1000000 in
theorem fixed_any (w : World) (ht : Tab w) :
    Calls Tryd.prog 7 #[] w fun e w' => e = .returned (.bool true) ∧ Below w.heap.size w w' := by
  have kc := fun (w : World) (C : Array Value) (n c : Nat) => Lib.run_convert_bytes_const (P := Tryd.prog) w 22 5 C n c Tryd.underlying22 Tryd.underlying5
  have B0 := Lib.hid (below_alloc w (.cells #[.int .u8 97] 5 (1, 2)))
  have C := Lib.hid (put_at 9 none (some ⟨w.heap.size, 0, none⟩) 0 0 1 1 [] [97] _ rfl rfl (by omega) (Byt.nil _) rfl (by omega) (show Byt (w.alloc (.cells #[.int .u8 97] 5 (1, 2))) (some ⟨w.heap.size, 0, none⟩) [97] from ⟨fun i hi => ⟨w.heap.size, 0, rfl, by rw [World.cell?_alloc_mark, Nat.zero_add]; match i, hi with | 0, _ => rfl⟩, by decide⟩) (ht.below B0.out ht.lt))
  rw [World.size_alloc] at C
  have S := Lib.hid (fun (a : Option Addr) (W : World) => size_any a 1 1 W (by omega))
  clear ht
  go_enter Tryd.func7, Tryd.ntmps7
  go_wp2_with fail
  refine C.out.mono ?_
  rintro e w1 ⟨rfl, hE, hb⟩
  have B1 := Lib.hid (B0.out.trans (hb.mono (Nat.le_succ _)))
  have hY := hE.byt (fr_rng [97] (by intro c hc; simp at hc; omega))
  have st := run_str w1 (some ⟨w.heap.size + 1, 0, none⟩) 4 9 [0, 0, 0, 1] rfl (hY.take 4)
  have c8 : w1.cell? ⟨w.heap.size + 1, 8, none⟩ = some (.int .u8 97) := by
    obtain ⟨b, off, e, hc⟩ := hY.1 8 (by decide)
    injection e with e
    injection e with e1 e2 _
    subst e1 e2
    exact hc
  have e4 : (ByteArray.mk #[0, 0, 0, 1]) = strOfNums [0, 0, 0, 1] := rfl
  clear hE hb hY C B0
  go_wp2_with fail
  refine (S.out _ _).mono ?_
  rintro e w' ⟨rfl, rfl⟩
  go_wp2
  go_ret
  exact ⟨rfl, below_go B1.out (below_alloc _ _)⟩
end Go.Proofs.YteiajbeoglmmmaaDoor
