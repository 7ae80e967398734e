/- The contract of rec.Scan. -/
import Derived.Test.YtcodihgjfhoepaaGreatDoorRcH
namespace Go.Proofs.YtcodihgjfhoepaaGreatDoor
open Go Go.RowKit Crc
set_option maxRecDepth 20000

/- what is scanned so far, and what is left -/
def Sc (l : List Int) (k g : Nat) (L : List (List Int)) : Prop := k ≤ l.length ∧ l.length < k + g ∧ L.length ≤ k ∧ L ++ (sc g (l.drop k)).1 = (scan l).1 ∧ k + (sc g (l.drop k)).2 = (scan l).2
theorem Sc.start (l : List Int) : Sc l 0 (l.length + 1) [] := ⟨Nat.zero_le _, by omega, Nat.le_refl _, by simp [scan], by simp [scan]⟩
theorem Sc.done {l : List Int} {k g : Nat} {L : List (List Int)} (h : Sc l k g L) (he : fE (l.drop k) ≠ 0) : L = (scan l).1 ∧ k = (scan l).2 := by
  obtain ⟨h1, h2, _, h3, h4⟩ := h
  obtain ⟨m, rfl⟩ : ∃ m, g = m + 1 := ⟨g - 1, by omega⟩
  rw [sc_stop _ _ he] at h3 h4
  exact ⟨by simpa using h3, by simpa using h4⟩
theorem Sc.more {l : List Int} {k g : Nat} {L : List (List Int)} (h : Sc l k g L) (he : fE (l.drop k) = 0) : Sc l (k + (8 + nm (l.drop k))) (g - 1) (L ++ [fR (l.drop k)]) ∧ k + (8 + nm (l.drop k)) ≤ l.length := by
  obtain ⟨h1, h2, h0, h3, h4⟩ := h
  obtain ⟨m, rfl⟩ : ∃ m, g = m + 1 := ⟨g - 1, by omega⟩
  obtain ⟨_, _, f3, _, _⟩ := fE_ok he
  rw [List.length_drop] at f3
  rw [sc_step _ _ he, List.drop_drop] at h3 h4
  refine ⟨⟨by omega, by omega, by simp; omega, ?_, ?_⟩, by omega⟩
  · rw [← h3]; simp
  · rw [← h4]; simp; omega
set_option maxHeartbeats 2000000 in
theorem scan_any (a : Option Addr) (len cap : Nat) (l : List Int) (w : World) (hl : l.length = len) (hm : len ≤ 90000) (hc : len ≤ cap) (hb : Byt w a l) (ht : Tab w) :
    Calls Tryz.prog 106 #[.slice a len cap] w fun e w' => ∃ v, e = .returned (.tuple #[v, .int .i64 ((scan l).2 : Int)]) ∧ OwnR w' w.heap.size v (scan l).1 ∧ Below w.heap.size w w' := by
  have HL := Lib.hid hl
  have HB := Lib.hid hb
  have HT := Lib.hid ht
  clear hl hb ht
  go_enter Tryz.func106, Tryz.ntmps106
  go_wp2
  go_loopw [4, 5] (fun v i wr => ∃ (k g : Nat) (L : List (List Int)), k ≤ len ∧ i = .int .i64 k ∧ Hid (Sc l k g L ∧ OwnR wr w.heap.size v L ∧ Below w.heap.size w wr)) (fun _ i _ => len - (intOf i).toNat)
  case atStart => exact ⟨0, len + 1, [], Nat.zero_le _, rfl, Lib.hid ⟨by rw [← HL.out]; exact Sc.start l, OwnR.nil _ _, Below.refl _ _⟩⟩
  case round =>
    obtain ⟨k, g, L, hk, rfl, H⟩ := hrel
    have G := Lib.hid (get_in a len cap l k wr HL.out (by omega) hc hk (HB.out.below H.out.2.2) (HT.out.below H.out.2.2 HT.out.lt))
    go_wp2_with fail
    refine G.out.mono ?_
    rintro e w2 (⟨h0, rfl, rfl⟩ | ⟨h0, A, C, rfl, hO, hb2⟩)
    · obtain ⟨e1, e2⟩ := H.out.1.done h0
      have hz : ((fE (l.drop k) : Int) != 0) = true := by rw [bne_iff_ne]; omega
      have E := Lib.hid (And.intro e1 e2)
      clear e1 e2 h0 G
      generalize fE (l.drop k) = z at hz
      go_wp2
      go_ret2
      exact ⟨u4, by rw [← E.out.2]; rfl, by rw [← E.out.1]; exact H.out.2.1, H.out.2.2⟩
    · have M := Lib.hid (H.out.1.more h0)
      have F := Lib.hid (fE_ok h0)
      have B2 := Lib.hid (below_go H.out.2.2 hb2)
      have D2 := Lib.hid (below_allocR w2 (.cells #[.slice A (nm (l.drop k)) C] 29))
      have R2 := Lib.hid ((H.out.2.1.below hb2).below D2.out)
      have O2 := Lib.hid ((hO.mono H.out.2.2.size).below D2.out)
      have KL := Lib.hid (show L.length ≤ 90000 by have := H.out.1.2.2.1; omega)
      have hkn : k + (8 + nm (l.drop k)) ≤ len := by have := M.out.2; rw [HL.out] at this; exact this
      clear h0 hO hb2 G
      generalize fR (l.drop k) = r at M F O2
      generalize nm (l.drop k) = n at M F O2 R2 D2 hkn
      go_wp2_with ((with_reducible show wpList _ _ _ (Oper.mk (some 23) _ _ _ _ _ :: _) _ _); refine wp_appr (.tmp 20) (.tmp 22) _ rfl rfl w.heap.size u4 L rfl R2.out ⟨w2.heap.size, 0, none⟩ rfl A n C r F.out.2.2.2.2 (by simp [go_sem]) O2.out (by have := KL.out; omega) (Nat.le_trans B2.out.size D2.out.size) ?_; intro v3 w3 hR3 hb3)
      have B3 := Lib.hid ((below_go B2.out D2.out).trans hb3)
      have R3 := Lib.hid hR3
      clear hR3 hb3
      go_wp2_with fail
      go_roundw
      case rel => exact ⟨k + (8 + n), g - 1, L ++ [r], hkn, by go_num, Lib.hid ⟨M.out.1, R3.out, B3.out⟩⟩
      case measure => simp [intOf]; omega
end Go.Proofs.YtcodihgjfhoepaaGreatDoor
