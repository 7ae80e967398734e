/- EventPuts: the walk of the statement's own function. -/
import Derived.Test.YtjpdnojkgadklaaEvFix
import Derived.Deep.RegionHeld3
namespace Go.Proofs.Ytjpdnojkgadklaa
open Go Go.RowKit Pk Rl
set_option maxRecDepth 20000

theorem Raws.next {w w' : World} {a : Option Addr} {L : List VV} (h : Raws w a L) (hb : Below w.heap.size w w') : Raws w' a L := h.below hb
theorem Own.nil (w : World) (B : Nat) : Own w B (.slice none 0 0) [] := World.ownsRow_nil w B 5 1
/- what is kept in the drawn test -/
abbrev Kept (g : Nat) (t : Int) (A : Option Addr) (k c : Nat) (s1 s2 : Value) (q : ByteArray) (w0 W : World) : Prop :=
  W.cell? ⟨g, 0, none⟩ = some (.int .u8 t) ∧ W.cell? ⟨g, 1, none⟩ = some (.slice A k c) ∧ (convert 22 9 s1).run Try.prog W = .ok (.string q) W ∧ (convert 22 9 s2).run Try.prog W = .ok (.string q) W ∧ Hid (Below w0.heap.size w0 W)
theorem kept_next {g : Nat} {t : Int} {A : Option Addr} {k c : Nat} {s1 s2 : Value} {q : ByteArray} {w0 W W' : World} (hb : Below W.heap.size W W') (h : Kept g t A k c s1 s2 q w0 W)
    (hS : Hid (∀ V, Below w0.heap.size w0 V → (convert 22 9 s1).run Try.prog V = .ok (.string q) V ∧ (convert 22 9 s2).run Try.prog V = .ok (.string q) V)) : Kept g t A k c s1 s2 q w0 W' := by
  obtain ⟨h0, h1, _, _, hw⟩ := h
  have hB := below_go hw.out hb
  refine ⟨?_, ?_, (hS.out W' hB).1, (hS.out W' hB).2, Lib.hid hB⟩
  · rw [hb.cell (World.block_lt_of_cell? _ _ h0)]; exact h0
  · rw [hb.cell (World.block_lt_of_cell? _ _ h1)]; exact h1

set_option maxHeartbeats 8000000 in
set_option maxRecDepth 100000 in
theorem puts_small (b : Option Addr) (len cap : Nat) (l : List Int) (t : Int) (a : Option Addr) (n c : Nat) (R L : List VV) (E : Nat) (qs : List Int) (m : Bool) (w : World) (hl : l.length = len) (hm : len ≤ 2000) (hb : Byt w b l)
    (hx : Raws w a R) (hL : R.take 30 = L) (hn : R.length = n) (hmx : n ≤ maxLen) (hk : ∀ v ∈ L, Okv v) (hz : ∀ v ∈ L, v.2.2.2.size ≤ maxLen) (hg : egr L = false) (hmay : emay L = m) (hqr : ∀ c ∈ qs, 0 ≤ c ∧ c < 256)
    (P1 : Hid (∀ A k c w, L.length = k → Vals w A L → Byt w b l → Calls Try.prog 11 #[.slice b len cap, ev t A k c] w fun e w' => ∃ A' k' c', e = .returned (.tuple #[.slice A' k' c', .int .i64 (E : Int)]) ∧ qs.length = k' ∧ Own w' w.heap.size (.slice A' k' c') qs ∧ Below w.heap.size w w'))
    (P2 : Hid (∀ A k c w, L.length = k → Vals w A L → Byt w b l → Calls Try.prog 12 #[.slice b len cap, ev t A k c] w fun e w' => ∃ A' k' c', e = .returned (.tuple #[.slice A' k' c', .int .i64 (E : Int)]) ∧ qs.length = k' ∧ Own w' w.heap.size (.slice A' k' c') qs ∧ Below w.heap.size w w'))
    (hE : Hid (E = 1 ∨ E = 0 ∧ ∀ A k c w, qs.length = k → k ≤ c → Byt w A qs → Calls Try.prog 17 #[.slice A k c, .int .i64 (len : Int)] w fun e w' => ∃ A' k' c', e = .returned (got3 (ev t A' k' c') (k : Int) 0) ∧ (L.map nb).length = k' ∧ OwnV w' w.heap.size (.slice A' k' c') (L.map nb) ∧ Below w.heap.size w w')) :
    Calls Try.prog 3 #[.slice b len cap, ev t a n c] w fun e w' => e = .returned (.bool true) ∧ Below w.heap.size w w' := by
  have h30 : L.length ≤ 30 := by rw [← hL]; exact List.length_take_le 30 R
  have FX := Lib.hid fixed_any
  have B0 := Lib.hid (below_alloc w (xcells t a n c))
  have EV := Lib.hid (event_any t a n c R (w.alloc (xcells t a n c)) hn hmx (hx.below B0.out))
  rw [hL] at EV
  have GR := Lib.hid (fun A k c w (h1 : L.length = k) h2 => great_any t A k c L w h1 (by omega) h2 hz)
  rw [hg] at GR
  have M1 := Lib.hid (fun A k c w (h1 : L.length = k) h2 => emay_any t A k c L w h1 (by omega) h2 hk)
  have M2 := Lib.hid (fun A k c w (h1 : L.length = k) h2 => remay_any t A k c L w h1 (by omega) h2 hk)
  rw [hmay] at M1 M2
  have OW := Lib.hid (fun A k c w (h1 : L.length = k) h2 => own_any t A k c L w h1 (by omega) h2)
  have SM := Lib.hid (fun A k c A' k' c' w (h1 : L.length = k) h2 h3 h4 => resame_any t t A A' k c k' c' L L w h1 h2 (by omega) h3 h4 hk hk)
  rw [esm_self] at SM
  have SN := Lib.hid (fun A k c A' k' c' w (h1 : (L.map nb).length = k) h2 h3 h4 => resame_any t t A A' k c k' c' (L.map nb) L w h1 h2 (by rw [List.length_map] at h1; omega) h3 h4 (ok_nb hk) hk)
  rw [esm_nb] at SN
  have HB := Lib.hid hb
  have QR := Lib.hid hqr
  have hd : decide ((2000 : Int) < (len : Int)) = false := by simp; omega
  clear hl hb hx hL hn hmx hk hz hg hmay hqr h30
  go_enter Try.func3, Try.ntmps3
  go_wp2_with fail
  refine EV.out.mono ?_
  rintro e w1 ⟨A1, k1, c1, rfl, hk1, ho1, hbl⟩
  have K1 := Lib.hid hk1
  have V1 := Lib.hid (Evt.alloc w1 t A1 k1 c1)
  have O1 := Lib.hid ((ho1.below (below_alloc w1 (ecells t A1 k1 c1))).vals)
  have B1 := Lib.hid (below_go (below_go B0.out hbl) (below_alloc w1 (ecells t A1 k1 c1)))
  clear hbl EV ho1 hk1 B0
  go_wp2_with fail
  refine (GR.out A1 k1 c1 _ K1.out O1.out).mono ?_
  rintro e w2 ⟨rfl, hbl⟩
  have V2 := Lib.hid (V1.out.next hbl)
  have O2 := Lib.hid (O1.out.below hbl)
  have B2 := Lib.hid (below_go B1.out hbl)
  clear hbl GR V1 O1 B1
  obtain ⟨c0, d1⟩ := V2.out
  go_wp2_with fail
  refine (P1.out A1 k1 c1 _ K1.out O2.out (HB.out.below B2.out)).mono ?_
  rintro e w3 ⟨A3, k3, c3, rfl, hk3, ho3, hbl⟩
  have V3 := Lib.hid (V2.out.next hbl)
  have O3 := Lib.hid (O2.out.below hbl)
  have B3 := Lib.hid (below_go B2.out hbl)
  have K3 := Lib.hid hk3
  have S3 := Lib.hid ho3
  clear hbl P1 V2 O2 B2 c0 d1 hk3 ho3
  obtain ⟨c0, d1⟩ := V3.out
  go_wp2_with fail
  refine (P2.out A1 k1 c1 _ K1.out O3.out (HB.out.below B3.out)).mono ?_
  rintro e w4 ⟨A4, k4, c4, rfl, hk4, ho4, hbl⟩
  have V4 := Lib.hid (V3.out.next hbl)
  have O4 := Lib.hid (O3.out.below hbl)
  have B4 := Lib.hid (below_go B3.out hbl)
  have S4 := Lib.hid (S3.out.below hbl)
  have CS := Lib.hid (fun V (hV : Below w4.heap.size w4 V) => And.intro ((S4.out.below hV).str QR.out K3.out) ((ho4.below hV).str QR.out hk4))
  have CD := Lib.hid (CS.out w4.drew (Below.refl _ _).drew)
  clear hbl P2 V3 O3 B3 c0 d1 hk4 ho4 S3
  have M1' := Lib.hid (fun W (h : Kept w1.heap.size t A1 k1 c1 (.slice A3 k3 c3) (.slice A4 k4 c4) (strOfNums qs) w4 W) => M1.out A1 k1 c1 W K1.out (O4.out.below h.2.2.2.2.out))
  have M2' := Lib.hid (fun W (h : Kept w1.heap.size t A1 k1 c1 (.slice A3 k3 c3) (.slice A4 k4 c4) (strOfNums qs) w4 W) => M2.out A1 k1 c1 W K1.out (O4.out.below h.2.2.2.2.out))
  have OW' := Lib.hid (fun W (h : Kept w1.heap.size t A1 k1 c1 (.slice A3 k3 c3) (.slice A4 k4 c4) (strOfNums qs) w4 W) => OW.out A1 k1 c1 W K1.out (O4.out.below h.2.2.2.2.out))
  have SM' := Lib.hid (fun A c B W (ho : OwnV W B (.slice A k1 c) L) (h : Kept w1.heap.size t A1 k1 c1 (.slice A3 k3 c3) (.slice A4 k4 c4) (strOfNums qs) w4 W) => SM.out A k1 c A1 k1 c1 W K1.out K1.out ho.vals (O4.out.below h.2.2.2.2.out))
  clear M1 M2 OW SM
  obtain ⟨c0, d1⟩ := V4.out
  have i1 : (m == m) = true := by simp
  go_wp2_with fail
  go_region_held3 (fun W => W.cell? ⟨w1.heap.size, 0, none⟩ = some (.int .u8 t) ∧ W.cell? ⟨w1.heap.size, 1, none⟩ = some (.slice A1 k1 c1) ∧ (convert 22 9 (.slice A3 k3 c3)).run Try.prog W = .ok (.string (strOfNums qs)) W ∧ (convert 22 9 (.slice A4 k4 c4)).run Try.prog W = .ok (.string (strOfNums qs)) W ∧ Hid (Below w4.heap.size w4 W))
    (first | (with_reducible assumption) | exact ⟨c0, d1, CD.out.1, CD.out.2, Lib.hid (Below.refl _ _).drew⟩ | (with_reducible exact kept_next b1 (by assumption) CS))
    (first
      | (go_at_call 10; (with_reducible refine (FX.out _).mono ?_); rintro e w' ⟨rfl, b1⟩)
      | (go_at_call 13; (with_reducible refine Calls.mono (M1'.out _ ?_) ?_); (with_reducible assumption); rintro e w' ⟨rfl, b1⟩)
      | (go_at_call 14; (with_reducible refine Calls.mono (M2'.out _ ?_) ?_); (with_reducible assumption); rintro e w' ⟨rfl, b1⟩)
      | (go_at_call 16; (with_reducible refine Calls.mono (OW'.out _ ?_) ?_); (with_reducible assumption); rintro e w' ⟨A6, c6, rfl, hO6, b1⟩)
      | (go_at_call 15; (with_reducible refine Calls.mono (SM'.out _ _ _ _ hO6 ?_) ?_); (with_reducible assumption); rintro e w' ⟨rfl, b1⟩))
  all_goals
    rename_i hHeld
    obtain ⟨f0, f1, _, _, HB5⟩ := hHeld
    rename_i w5 _ _
    have B5 := Lib.hid (below_go B4.out HB5.out)
    have O5 := Lib.hid (O4.out.below HB5.out)
    have S5 := Lib.hid (S4.out.below HB5.out)
    clear V4 O4 B4 S4 CS CD M1' M2' OW' SM' c0 d1
    rcases hE.out with he | ⟨he, GT⟩
    · subst he
      clear hE
      go_wp2_with fail
      go_ret
      exact ⟨rfl, B5.out⟩
    · subst he
      have GT := Lib.hid (GT A3 k3 c3 _ K3.out (S5.out.le K3.out) (S5.out.byt QR.out))
      clear hE
      go_wp2_with fail
      refine GT.out.mono ?_
      rintro e w6 ⟨A6, k6, c6, rfl, hk6, ho6, hbl⟩
      have D6 := Lib.hid (below_go hbl (below_alloc w6 (ecells t A6 k6 c6)))
      have SF := Lib.hid (SN.out A6 k6 c6 A1 k1 c1 _ hk6 K1.out (ho6.below (below_alloc w6 (ecells t A6 k6 c6))).vals (O5.out.below D6.out))
      have V6 := Lib.hid (show Evt w6 w1.heap.size t A1 k1 c1 from (show Evt _ w1.heap.size t A1 k1 c1 from ⟨f0, f1⟩).next hbl)
      have B6 := Lib.hid (below_go B5.out D6.out)
      clear hbl GT hk6 ho6 f0 f1 O5 S5 B5 D6
      obtain ⟨g0, g1⟩ := V6.out
      have z6 : w1.heap.size < w6.heap.size := V6.out.lt
      go_wp2_with fail
      refine SF.out.mono ?_
      rintro e w7 ⟨rfl, hbl⟩
      have B7 := Lib.hid (below_go B6.out hbl)
      clear hbl
      go_wp2_with fail
      go_ret
      exact ⟨rfl, B7.out⟩
end Go.Proofs.Ytjpdnojkgadklaa
