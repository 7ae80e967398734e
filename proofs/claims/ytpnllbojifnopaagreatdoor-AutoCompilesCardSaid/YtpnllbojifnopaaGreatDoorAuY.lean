/- The program's Compile of a pattern that may be. -/
import Derived.Test.YtpnllbojifnopaaGreatDoorAuZ
namespace Go.Proofs.YtpnllbojifnopaaGreatDoor
open Go Go.RowKit Pk Rl
set_option maxRecDepth 20000

def CoX (s : Res) (w : World) (e : Ending) (w' : World) : Prop := (64 < s.2.2.2.length ∧ CoN 12 w e w') ∨ (s.2.2.2.length ≤ 64 ∧ CoA s w e w')
set_option maxHeartbeats 8000000 in
theorem comp_yes (A : Option Addr) (n c : Nat) (L : List Nd) (win : Int) (w : World) (hP : Pt w A n c L) (hT : Tab w) (hT5 : Tab5 w) (hm : mp L win = 0) :
    Calls Tryz.prog 14 #[ptv A n c win] w fun e w' => CoX (au 33 L 0) w e w' := by
  obtain ⟨w1, hw1⟩ : ∃ X, (w.alloc (ptobj A n c win)).alloc (.cells #[.slice none 0 0, .int .u32 0, .int .u32 0, .slice none 0 0] 36) = X := ⟨_, rfl⟩
  have b1 : Below w.heap.size w w1 := hw1 ▸ below_go (below_alloc w _) (below_alloc _ _)
  have P0 : PtB w1 w.heap.size A n c win := hw1 ▸ (PtB.alloc w A n c win).next (below_alloc _ _)
  have A0 : AB w1 (w.heap.size + 1) none 0 0 0 0 none 0 0 := by rw [← hw1, ← World.size_alloc w (ptobj A n c win)]; exact heap_alloc_new _ _
  have TM := Lib.hid (tmay_any A n c L win w1 (hP.below b1) (hT.below b1))
  rw [hm] at TM
  have HM := mp_top hm
  have hcn := au_cn 33 L HM.fm HM.fr
  have hPl : (au 33 L 0).2.2.1.length ≤ 32 := by rw [hcn.p 0]; exact HM.cn
  have hEl : (au 33 L 0).2.2.2.length ≤ 1081344 := by
    have h1 := hcn.e 0
    have h2 := HM.cn
    have : 1024 * 33 * cnt 33 L ≤ 1024 * 33 * 32 := Nat.mul_le_mul_left _ h2
    omega
  have AC1 := Lib.hid (fun r (hr : w.heap.size ≤ r) W (hW : Mk W r [] []) (hb : Below w.heap.size w W) => pat_any w r hr hT5 33 L HM.fm HM.fr (by have := HM.len; omega) W A n c [] [] hW hb hP (by simpa using hPl) (by simp only [List.length_nil, Nat.zero_add]; omega))
  simp only [List.length_nil] at AC1
  obtain ⟨S, hS⟩ : ∃ S, au 33 L 0 = S := ⟨_, rfl⟩
  rw [hS] at AC1 hEl ⊢
  obtain ⟨s1, s2, sP, sE⟩ := S
  simp only at hEl
  have B1 := Lib.hid b1
  have AA := Lib.hid A0
  have PP := Lib.hid P0
  have k0 := P0.c0
  have k1 := P0.c1
  have zA := A0.lt
  clear hP hT hT5 b1 P0 A0 hm hS hcn hPl HM
  go_enter Tryz.func14, Tryz.ntmps14
  go_upto_region 1 with fail
  clear hw1
  go_wp2_with fail
  refine TM.out.mono ?_
  rintro e w2 ⟨rfl, hb⟩
  have zA2 : w.heap.size + 1 < w2.heap.size := Nat.lt_of_lt_of_le zA hb.size
  have n3 := below_alloc w2 (.cells #[.slice none 0 0, .slice none 0 0] 119)
  have A3 := Lib.hid ((AA.out.below hb zA).below n3 zA2)
  have P3 := Lib.hid ((PP.out.next hb).next n3)
  have B3 := Lib.hid (below_go (below_go B1.out hb) n3)
  have M3 := Lib.hid (show Mk (w2.alloc (.cells #[.slice none 0 0, .slice none 0 0] 119)) w2.heap.size [] [] from
    ⟨none, 0, 0, none, 0, 0, [], [], ⟨heap_alloc_new w2 _, World.ownsRow_nil _ _ 45 3, World.ownsRow_nil _ _ 47 6, rfl, rfl, by simp, by simp⟩, rfl, rfl⟩)
  have zr : w.heap.size + 1 < w2.heap.size := zA2
  have CA := Lib.hid (AC1.out w2.heap.size (by omega) _ M3.out B3.out)
  clear hb n3 TM AC1 AA PP k0 k1 zA B1 M3
  go_upto_region 5 with fail
  generalize w2.alloc (.cells #[.slice none 0 0, .slice none 0 0] 119) = w3 at A3 P3 B3 CA ⊢
  generalize w2.heap.size = r at zA2 zr CA ⊢
  have k0 := P3.out.c0
  have k1 := P3.out.c1
  go_wp2_with fail
  refine CA.out.mono ?_
  rintro e w4 ⟨rfl, hMk, hKa⟩
  rw [List.nil_append, List.nil_append] at hMk
  obtain ⟨Ap, kp, cp, Ae, ke, ce, Ps, Es, hMi, hPs, hEs⟩ := hMk
  have hke : ke = sE.length := by have h1 := congrArg List.length hEs; rw [List.length_map, hMi.le] at h1; exact h1
  have n5 := below_alloc w4 (eobj s1 s2)
  have A5 := Lib.hid ((A3.out.below hKa.o zr).below n5 (by have := hMi.lt; omega))
  have M5 := Lib.hid (hMi.same (W' := w4.alloc (eobj s1 s2)) (fun x o hx _ => by rw [n5.block x (Array.getElem?_eq_some_iff.1 hx).1]; exact hx))
  have B5 := Lib.hid (below_go (B3.out.trans (hKa.o.mono (by omega))) n5)
  have E5 := Lib.hid (EB.alloc w4 s1 s2)
  have z5 : r < w4.heap.size := hMi.lt
  have HPs := Lib.hid hPs
  have HEs := Lib.hid hEs
  clear hMi hPs hEs n5 hKa A3 P3 B3 CA k0 k1
  go_upto_region 6 with fail
  generalize w4.alloc (eobj s1 s2) = w5 at A5 M5 B5 E5 ⊢
  generalize w4.heap.size = b6 at E5 z5 ⊢
  obtain ⟨m0, m1, _⟩ := M5.out.cells
  have zm := M5.out.lt
  by_cases hbig : 64 < sE.length
  · have hb1 : decide ((64 : Int) < (ke : Int)) = true := by simp; omega
    have hb2 : (64 : Int) < (ke : Int) := by omega
    obtain ⟨a0, a1, a2, a3, af⟩ := A5.out.cells
    have f0 := af 0
    have f1 := af 1
    have f2 := af 2
    have f3 := af 3
    have z2 := A5.out.lt
    have BF := Lib.hid ((((B5.out.setCell (p := ⟨w.heap.size + 1, 0, none⟩) (Nat.le_succ _) (.slice none 0 0)).setCell (p := ⟨w.heap.size + 1, 1, none⟩) (Nat.le_succ _) (.int .u32 0)).setCell (p := ⟨w.heap.size + 1, 2, none⟩) (Nat.le_succ _) (.int .u32 0)).setCell (p := ⟨w.heap.size + 1, 3, none⟩) (Nat.le_succ _) (.slice none 0 0))
    clear af A5 M5 B5 E5 HPs HEs hke
    go_wp2_with fail
    refine bodyPost_ret (v := .tuple #[autv none 0 0 0 0 none 0 0, .int .i64 12]) (by simp [results, Tryz.results14, go_sem, *]) rfl (.inl ⟨hbig, rfl, BF.out⟩)
  · have hb1 : decide ((64 : Int) < (ke : Int)) = false := by simp; omega
    have hb2 : ¬ (64 : Int) < (ke : Int) := by omega
    have SO := Lib.hid (sortE_any r Ap kp cp Ae ke ce Ps Es w5 M5.out (by omega))
    have HK := Lib.hid hke
    clear hke
    go_wp2_with fail
    refine SO.out.mono ?_
    rintro e w6 ⟨⟨v, rfl⟩, Es', hperm, hkyl, hMi, hKa⟩
    have A6 := Lib.hid (A5.out.below hKa.o zr)
    have E6 := Lib.hid (E5.out.ka hKa (by omega))
    have B6 := Lib.hid (B5.out.trans (hKa.o.mono (by omega)))
    have M6 := Lib.hid hMi
    have KL := Lib.hid (And.intro hperm hkyl)
    clear hperm hkyl hMi hKa A5 M5 B5 E5 SO m0 m1 zm
    obtain ⟨m0, m1, _⟩ := M6.out.cells
    obtain ⟨e0, e1, _⟩ := E6.out.cells
    obtain ⟨a0, a1, a2, a3, af⟩ := A6.out.cells
    have f0 := af 0
    have f1 := af 1
    have f2 := af 2
    have f3 := af 3
    have zm := M6.out.lt
    have ze := E6.out.lt
    have za := A6.out.lt
    have BF := Lib.hid ((((B6.out.setCell (p := ⟨w.heap.size + 1, 0, none⟩) (Nat.le_succ _) (.slice Ap kp cp)).setCell (p := ⟨w.heap.size + 1, 1, none⟩) (Nat.le_succ _) (.int .u32 (s1 : Int))).setCell (p := ⟨w.heap.size + 1, 2, none⟩) (Nat.le_succ _) (.int .u32 (s2 : Int))).setCell (p := ⟨w.heap.size + 1, 3, none⟩) (Nat.le_succ _) (.slice Ae ke ce))
    have MF := Lib.hid ((((M6.out.low (w.heap.size + 1) 0 zr (.slice Ap kp cp)).low (w.heap.size + 1) 1 zr (.int .u32 (s1 : Int))).low (w.heap.size + 1) 2 zr (.int .u32 (s2 : Int))).low (w.heap.size + 1) 3 zr (.slice Ae ke ce))
    have hle : sE.length ≤ 64 := by omega
    clear af A6 E6 B6 M6 HK
    go_wp2_with fail
    refine bodyPost_ret (v := .tuple #[autv Ap kp cp s1 s2 Ae ke ce, .int .i64 0]) (by simp [results, Tryz.results14, go_sem, *]) rfl (.inr ⟨hle, r, Ap, kp, cp, Ae, ke, ce, Ps, Es', rfl, MF.out, HPs.out, ?_, KL.out.2, by omega, BF.out⟩)
    have := KL.out.1.map ve
    rwa [HEs.out] at this
end Go.Proofs.YtpnllbojifnopaaGreatDoor
