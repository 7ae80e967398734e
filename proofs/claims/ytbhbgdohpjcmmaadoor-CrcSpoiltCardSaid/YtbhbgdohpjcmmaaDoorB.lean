/- The contract of the chapter's examples, and what of memory outlasts the making of more. -/
import Derived.Test.YtbhbgdohpjcmmaaDoorA
import Derived.Below
import Derived.KernelRfl
import Derived.Lib.SlBytesConst
namespace Go.Proofs.YtbhbgdohpjcmmaaDoor
open Go Go.RowKit Crc

theorem sum_digits : sum 0#32 [49, 50, 51, 52, 53, 54, 55, 56, 57] = 3421780262#32 := by kernel_rfl

theorem Tab.lt {w : World} (ht : Tab w) : 0 < w.heap.size := World.block_lt_of_cell? _ _ (ht 0 (by omega))
theorem Tab.below {B : Nat} {w w' : World} (ht : Tab w) (h : Below B w w') (hB : 0 < B) : Tab w' := fun i hi => (h.cell (p := ⟨0, i, none⟩) hB).trans (ht i hi)
theorem Byt.below {w w' : World} {a : Option Addr} {l : List Int} (hb : Byt w a l) (h : Below w.heap.size w w') : Byt w' a l :=
  ⟨fun i hi => by
    obtain ⟨b, off, ha, hc⟩ := hb.1 i hi
    exact ⟨b, off, ha, (h.cell (p := ⟨b, off + i, none⟩) (World.block_lt_of_cell? _ _ hc)).trans hc⟩, hb.2⟩

set_option maxHeartbeats 400000 in
theorem fixed_any (w : World) (ht : Tab w) :
    Calls Tryd.prog 6 #[] w fun e w' => e = .returned (.bool true) ∧ Below w.heap.size w w' := by
  have kc := fun (w : World) (C : Array Value) (n c : Nat) => Lib.run_convert_bytes_const (P := Tryd.prog) w 22 5 C n c Tryd.underlying22 Tryd.underlying5
  have hbel := ((Below.refl w.heap.size w).alloc (Nat.le_refl _) (.cells #[.int .u8 49, .int .u8 50, .int .u8 51, .int .u8 52, .int .u8 53, .int .u8 54, .int .u8 55, .int .u8 56, .int .u8 57] 5 (9, 10)))
  have C1 := sum_any (some ⟨w.heap.size, 0, none⟩) 9 9 [49, 50, 51, 52, 53, 54, 55, 56, 57] _ rfl (by decide)
    ⟨fun i hi => ⟨w.heap.size, 0, rfl, by
      rw [World.cell?_alloc_mark, Nat.zero_add]
      match i, hi with
      | 0, _ | 1, _ | 2, _ | 3, _ | 4, _ | 5, _ | 6, _ | 7, _ | 8, _ => rfl⟩, by decide⟩ (ht.below hbel ht.lt)
  rw [sum_digits] at C1
  have H1 := Lib.hid C1
  have H2 := Lib.hid (sum_any none 0 0 [] _ rfl (by decide) ⟨fun i hi => absurd hi (by simp), by decide⟩ (ht.below hbel ht.lt))
  have HB := Lib.hid hbel
  clear hbel C1
  go_enter Tryd.func6, Tryd.ntmps6
  go_wp2_with fail
  refine H1.out.mono ?_
  rintro e w' ⟨rfl, rfl⟩
  go_wp2_with fail
  refine H2.out.mono ?_
  rintro e w' ⟨rfl, rfl⟩
  go_wp2
  go_ret
  exact ⟨rfl, HB.out⟩
end Go.Proofs.YtbhbgdohpjcmmaaDoor
