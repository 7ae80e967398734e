/- What a node's kind names: read. -/
import Derived.Test.YtilgoghnoeohnaaDoorCdJ
import Derived.Test.YtilgoghnoeohnaaDoorCdK
namespace Go.Proofs.YtilgoghnoeohnaaDoor
open Go Go.RowKit Pk Rl
set_option maxRecDepth 20000

theorem NB.ask {w : World} {g : Nat} {nd : Nd} (h : NB w g nd) (x : Bool) (t : Int) (A : Option Addr) (k c : Nat) (L : List TT) : NB (((w.setCell ⟨g, 1, none⟩ (.bool x)).setCell ⟨g, 2, none⟩ (.int .u8 t)).setCell ⟨g, 3, none⟩ (.slice A k c)) g { nd with p := ⟨x, t, A, k, c, L⟩ } := by
  unfold NB
  have h1 : (w.setCell ⟨g, 1, none⟩ (.bool x)).heap[g]? = some (nobj { nd with p := ⟨x, nd.p.t, nd.p.a, nd.p.n, nd.p.c, L⟩ }) := by rw [heap_setCell_same w g 1 _ _ _ h]; rfl
  have h2 : ((w.setCell ⟨g, 1, none⟩ (.bool x)).setCell ⟨g, 2, none⟩ (.int .u8 t)).heap[g]? = some (nobj { nd with p := ⟨x, t, nd.p.a, nd.p.n, nd.p.c, L⟩ }) := by rw [heap_setCell_same _ g 2 _ _ _ h1]; rfl
  rw [heap_setCell_same _ g 3 _ _ _ h2]
  rfl
set_option maxHeartbeats 2000000 in
theorem named_1 (b off len cap ee : Nat) (l z : List Int) (q : Qu) (r g : Nat) (nd : Nd) (A2 : Option Addr) (m2 c2 : Nat) (w : World) (h : Rb w r (.slice (some ⟨b, off, none⟩) len cap) (l.length : Int) (.slice A2 m2 c2)) (hn : NB w g nd) (hk1 : nd.k = 1) (hgr : g ≠ r) (hee : (l ++ wpd q.x q.t q.L).length = ee) (hlen : (l ++ (wpd q.x q.t q.L ++ z)).length = len) (hl : len ≤ 100000) (hc : len ≤ cap)
    (hb : Byt w (some ⟨b, off, none⟩) (l ++ (wpd q.x q.t q.L ++ z))) (hk : ∀ v ∈ q.L, Okt v) (hT : Tab w) (hm : pmay q.x q.t q.L = true) :
    Calls Tryd.prog 43 #[.pointer (some ⟨r, 0, none⟩), .pointer (some ⟨g, 0, none⟩)] w fun e w' => ∃ A k c, e = .returned (.tuple #[.int .i64 0, .int .i64 0]) ∧ (q.L.map nt).length = k ∧ OwnT w' w.heap.size (.slice A k c) (q.L.map nt) ∧ Rb w' r (.slice (some ⟨b, off, none⟩) len cap) (ee : Int) (.slice A2 m2 c2) ∧ NB w' g { nd with p := ⟨q.x, q.t, A, k, c, q.L.map nt⟩ } ∧ Fr r g w w' := by
  have QO := Lib.hid (question_ok b off len cap ee l z q r A2 m2 c2 w h hee hlen hl hc hb hk hT hm)
  have HN := Lib.hid hn
  have zg := hn.lt
  obtain ⟨x0, _⟩ := hn.atn
  rw [hk1] at x0
  obtain ⟨L2, hL2⟩ : ∃ L2, q.L.map nt = L2 := ⟨_, rfl⟩
  rw [hL2] at QO ⊢
  clear h hb hT hk hee hlen hn hm
  go_enter Tryd.func43, Tryd.ntmps43
  go_wp2_with fail
  refine QO.out.mono ?_
  rintro e w1 ⟨A, k, c, rfl, hkk, ho, hR, hF⟩
  have hN := HN.out.fr hF hgr hgr
  obtain ⟨_, x1, x2, x3, _⟩ := hN.atn
  have f1 := hN.free 1
  have f2 := hN.free 2
  have f3 := hN.free 3
  have zg1 := hN.lt
  simp only [Nat.zero_add] at x1 x2 x3
  have KK := Lib.hid hkk
  have OO := Lib.hid (((ho.setCell g 1 zg (.bool q.x)).setCell g 2 zg (.int .u8 q.t)).setCell g 3 zg (.slice A k c))
  have RR := Lib.hid (((hR.other g 1 (.bool q.x) (Ne.symm hgr)).other g 2 (.int .u8 q.t) (Ne.symm hgr)).other g 3 (.slice A k c) (Ne.symm hgr))
  have FF := Lib.hid (((hF.wide (g := g)).set g 1 (.bool q.x) (.inr rfl)).set g 2 (.int .u8 q.t) (.inr rfl) |>.set g 3 (.slice A k c) (.inr rfl))
  have NN := Lib.hid (hN.ask q.x q.t A k c L2)
  clear hkk ho hR hF hN QO HN
  go_wp2_with fail
  go_ret2
  exact ⟨A, k, c, rfl, KK.out, OO.out, RR.out, NN.out, FF.out⟩
theorem named_4 (b off len cap i : Nat) (lo hi : Int) (r g : Nat) (nd : Nd) (A2 : Option Addr) (m2 c2 : Nat) (w : World) (h : Rb w r (.slice (some ⟨b, off, none⟩) len cap) (i : Int) (.slice A2 m2 c2)) (hn : NB w g nd) (hk4 : nd.k = 4) (hi2 : i + 2 ≤ len) (hl : len ≤ 100000) (hc : len ≤ cap)
    (hx : w.cell? ⟨b, off + i, none⟩ = some (.int .u8 lo)) (hy : w.cell? ⟨b, off + i + 1, none⟩ = some (.int .u8 hi)) (hbr : b ≠ r) (hgr : g ≠ r) (h1 : 1 ≤ lo) (h2 : lo ≤ hi) (h3 : hi ≤ 8) :
    Calls Tryd.prog 43 #[.pointer (some ⟨r, 0, none⟩), .pointer (some ⟨g, 0, none⟩)] w fun e w' => e = .returned (.tuple #[.int .i64 1, .int .i64 0]) ∧ Rb w' r (.slice (some ⟨b, off, none⟩) len cap) ((i + 2 : Nat) : Int) (.slice A2 m2 c2) ∧ NB w' g { nd with lo := lo, hi := hi } ∧ Fr r g w w' := by
  have TO := Lib.hid (times_ok b off len cap i lo hi r g nd A2 m2 c2 w h hn hi2 hl hc hx hy hbr hgr h1 h2 h3)
  obtain ⟨x0, _⟩ := hn.atn
  rw [hk4] at x0
  clear h hn hx hy
  go_enter Tryd.func43, Tryd.ntmps43
  go_wp2_with fail
  refine TO.out.mono ?_
  rintro e w1 ⟨rfl, hR, hN, hF⟩
  have RR := Lib.hid hR
  have NN := Lib.hid hN
  have FF := Lib.hid hF
  clear hR hN hF TO
  go_wp2_with fail
  go_ret2
  exact ⟨rfl, RR.out, NN.out, FF.out⟩
theorem named_m (b off len cap i m : Nat) (r g : Nat) (nd : Nd) (A2 : Option Addr) (m2 c2 : Nat) (w : World) (h : Rb w r (.slice (some ⟨b, off, none⟩) len cap) (i : Int) (.slice A2 m2 c2)) (hn : NB w g nd) (hk : nd.k = 2 ∨ nd.k = 3) (hi : i + 1 ≤ len) (hl : len ≤ 100000) (hc : len ≤ cap)
    (hx : w.cell? ⟨b, off + i, none⟩ = some (.int .u8 (m : Int))) (hbr : b ≠ r) (hgr : g ≠ r) (h2 : 2 ≤ m) (h3 : m < 256) :
    Calls Tryd.prog 43 #[.pointer (some ⟨r, 0, none⟩), .pointer (some ⟨g, 0, none⟩)] w fun e w' => e = .returned (.tuple #[.int .i64 (m : Int), .int .i64 0]) ∧ Rb w' r (.slice (some ⟨b, off, none⟩) len cap) ((i + 1 : Nat) : Int) (.slice A2 m2 c2) ∧ NB w' g nd ∧ Fr r g w w' := by
  have PO := Lib.hid (parts_ok b off len cap i m r A2 m2 c2 w h hi hl hc hx hbr h2 h3)
  have HN := Lib.hid (fun w' (k : Fr r r w w') => hn.fr k hgr hgr)
  obtain ⟨x0, _⟩ := hn.atn
  have e1 : (nd.k == 1) = false := by rcases hk with e | e <;> simp [e]
  have e4 : (nd.k == 4) = false := by rcases hk with e | e <;> simp [e]
  clear h hn hx hk
  go_enter Tryd.func43, Tryd.ntmps43
  go_wp2_with fail
  refine PO.out.mono ?_
  rintro e w1 ⟨rfl, hR, hF⟩
  have RR := Lib.hid hR
  have NN := Lib.hid (HN.out w1 hF)
  have FF := Lib.hid (hF.wide (g := g))
  clear hR hF PO
  go_wp2_with fail
  go_ret2
  exact ⟨rfl, RR.out, NN.out, FF.out⟩
end Go.Proofs.YtilgoghnoeohnaaDoor
