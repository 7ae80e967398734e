/- How often a Rep's part stands there: read. -/
import Derived.Test.YtilgoghnoeohnaaDoorCdI
namespace Go.Proofs.YtilgoghnoeohnaaDoor
open Go Go.RowKit Pk Rl
set_option maxRecDepth 20000

set_option maxHeartbeats 2000000 in
theorem times_ok (b off len cap i : Nat) (lo hi : Int) (r g : Nat) (nd : Nd) (A2 : Option Addr) (m2 c2 : Nat) (w : World) (h : Rb w r (.slice (some ⟨b, off, none⟩) len cap) (i : Int) (.slice A2 m2 c2)) (hn : NB w g nd) (hi2 : i + 2 ≤ len) (hl : len ≤ 100000) (hc : len ≤ cap)
    (hx : w.cell? ⟨b, off + i, none⟩ = some (.int .u8 lo)) (hy : w.cell? ⟨b, off + i + 1, none⟩ = some (.int .u8 hi)) (hbr : b ≠ r) (hgr : g ≠ r) (h1 : 1 ≤ lo) (h2 : lo ≤ hi) (h3 : hi ≤ 8) :
    Calls Tryd.prog 60 #[.pointer (some ⟨r, 0, none⟩), .pointer (some ⟨g, 0, none⟩)] w fun e w' => e = .returned (.int .i64 0) ∧ Rb w' r (.slice (some ⟨b, off, none⟩) len cap) ((i + 2 : Nat) : Int) (.slice A2 m2 c2) ∧ NB w' g { nd with lo := lo, hi := hi } ∧ Fr r g w w' := by
  have BY := Lib.hid (bytes_ok b off len cap 2 i r A2 m2 c2 w h hi2 hl hc (by omega) (by omega))
  have HX := Lib.hid (fun w' (k : Fr r r w w') => And.intro (k.cell hx hbr hbr) (And.intro (k.cell hy hbr hbr) (hn.fr k hgr hgr)))
  have t1 : decide (lo < 1) = false := by simp; omega
  have t2 : decide (hi < lo) = false := by simp; omega
  have t3 : decide (8 < hi) = false := by simp; omega
  clear h hx hy hn
  go_enter Tryd.func60, Tryd.ntmps60
  go_wp2_with fail
  refine BY.out.mono ?_
  rintro e w1 ⟨rfl, hR, hF⟩
  obtain ⟨x1, x2, hN⟩ := HX.out w1 hF
  have f8 := hN.free 8
  have f9 := hN.free 9
  have zg := hN.lt
  obtain ⟨_, _, _, _, _, _, _, _, x8, x9, _⟩ := hN.atn
  simp only [Nat.zero_add] at x8 x9
  have RR := Lib.hid (fun W (hW : Below w1.heap.size w1 W) => And.intro (((hR.next hW).other g 8 (.int .u8 lo) (Ne.symm hgr)).other g 9 (.int .u8 hi) (Ne.symm hgr)) (And.intro ((hN.next hW).times lo hi) (((hF.wide (g := g)).next hW).set g 8 (.int .u8 lo) (.inr rfl) |>.set g 9 (.int .u8 hi) (.inr rfl))))
  clear hR hF BY HX hN
  go_upto_region 4 with fail
  go_region
  go_wp2_with fail
  go_region
  go_wp2_with fail
  go_ret
  exact ⟨rfl, RR.out _ ((Below.refl _ _).drew.drew)⟩
end Go.Proofs.YtilgoghnoeohnaaDoor
