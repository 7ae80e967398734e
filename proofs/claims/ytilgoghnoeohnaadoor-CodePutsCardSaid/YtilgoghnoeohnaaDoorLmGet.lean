/- Contracts, joined: LbGetSays, LbGetRealSays, LbGet, LbGetInt, LbGetText, LbGetReal. -/
import Derived.Test.YtilgoghnoeohnaaDoorMB
import Derived.Test.YtilgoghnoeohnaaDoorMA
import Derived.Lib.MinMax
/- What stands at a place, as a plain function, and that what was put is got. -/
namespace Go.Proofs.YtilgoghnoeohnaaDoor
open Go Go.RowKit Pk
set_option maxRecDepth 20000


/- what stands at a place: the number, where it ends, the error -/
def gv (l : List Int) (p : Int) : Nat × Nat × Nat := if p < 0 ∨ (l.length : Int) < p then (0, 0, 3) else gt (l.drop p.toNat) 0 0
def gN (l : List Int) (p : Int) : Nat := (gv l p).1
def gK (l : List Int) (p : Int) : Int := if (gv l p).2.2 = 0 then p + ((gv l p).2.1 : Int) else 0
def gE (l : List Int) (p : Int) : Nat := (gv l p).2.2

theorem g_err (l : List Int) (p : Int) (h : gE l p ≠ 0) : gN l p = 0 ∧ gK l p = 0 := by
  unfold gE at h
  unfold gN gK
  rw [if_neg h]
  refine ⟨?_, rfl⟩
  unfold gv at h ⊢
  split
  · rfl
  · rename_i c
    rw [if_neg c] at h
    exact (gt_err _ _ _ h).1

theorem g_ok (l : List Int) (p : Int) (hr : ∀ c ∈ l, 0 ≤ c ∧ c < 256) (h : gE l p = 0) : 0 ≤ p ∧ p < gK l p ∧ gK l p ≤ (l.length : Int) ∧ (l.drop p.toNat).take (gK l p - p).toNat = wrt (gN l p) ∧ gN l p < 18446744073709551616 := by
  unfold gE at h
  unfold gN gK
  rw [if_pos h]
  unfold gv at h ⊢
  by_cases c : p < 0 ∨ (l.length : Int) < p
  · rw [if_pos c] at h; simp at h
  · rw [if_neg c] at h ⊢
    obtain ⟨q, rfl⟩ : ∃ q : Nat, p = (q : Int) := ⟨p.toNat, by omega⟩
    rw [Int.toNat_natCast] at h ⊢
    have hr2 : ∀ c ∈ l.drop q, 0 ≤ c ∧ c < 256 := fun c hc => hr c (List.mem_of_mem_drop hc)
    rcases e : gt (l.drop q) 0 0 with ⟨n, k, z⟩
    rw [e] at h
    simp only at h ⊢
    subst h
    obtain ⟨m, h1, h2, h3, h4, _⟩ := gt_only _ 0 0 n k hr2 e
    have h5 := gt_room _ 0 0 n k hr2 (by omega) (by simp) e
    rw [List.length_drop] at h3
    refine ⟨by omega, by omega, by omega, ?_, h5⟩
    rw [show ((q : Int) + (k : Int) - (q : Int)).toNat = k - 0 by omega, h4, h1]
    simp

theorem g_lt (l : List Int) (p : Int) (hr : ∀ c ∈ l, 0 ≤ c ∧ c < 256) : gN l p < 18446744073709551616 := by
  by_cases h : gE l p = 0
  · exact (g_ok l p hr h).2.2.2.2
  · rw [(g_err l p h).1]; omega


/- ### what was put is got -/
theorem got (pre post : List Int) (n : Nat) (hn : n < 18446744073709551616) (L : List Int) (hL : L = pre ++ (wrt n ++ post)) (p : Int) (hp : p = (pre.length : Int)) :
    gN L p = n ∧ gK L p = p + ((wrt n).length : Int) ∧ gE L p = 0 := by
  have e : gv L p = (n, (wrt n).length, 0) := by
    unfold gv
    rw [if_neg (by rw [hL, hp, List.length_append]; omega), hp, Int.toNat_natCast, hL, List.drop_left, gt_wrt post n 0 0 (by simpa using hn) (.inl rfl)]
    simp
  unfold gN gK gE
  rw [e]
  exact ⟨rfl, rfl, rfl⟩


theorem f_get (l : List Int) (p : Int) (hr : ∀ c ∈ l, 0 ≤ c ∧ c < 256) (h : gE l p = 0) : ∃ q K : Nat, p = (q : Int) ∧ gK l p = (K : Int) ∧ q < K ∧ K ≤ l.length ∧ (l.drop q).take (K - q) = wrt (gN l p) ∧ gN l p < 18446744073709551616 := by
  obtain ⟨o1, o2, o3, o4, o5⟩ := g_ok l p hr h
  refine ⟨p.toNat, (gK l p).toNat, by omega, by omega, by omega, by omega, ?_, o5⟩
  rw [← o4]
  congr 1
  omega

/- the text at a place -/
def tE (l : List Int) (p m : Int) : Nat := if gE l p ≠ 0 then gE l p else if max m 0 < (gN l p : Int) then 4 else if (l.length : Int) - gK l p < (gN l p : Int) then 3 else 0
def tK (l : List Int) (p m : Int) : Int := if tE l p m = 0 then gK l p + (gN l p : Int) else 0
def tL (l : List Int) (p m : Int) : List Int := if tE l p m = 0 then (l.drop (gK l p).toNat).take (gN l p) else []
theorem t_bad (l : List Int) (p m : Int) (e : Nat) (h : tE l p m = e) (h0 : e ≠ 0) : tK l p m = 0 ∧ tL l p m = [] := by
  unfold tK tL
  rw [if_neg (by omega), if_neg (by omega)]
  exact ⟨rfl, rfl⟩

theorem gotText (pre post : List Int) (s : ByteArray) (hs : s.size < 9223372036854775808) (L : List Int) (hL : L = pre ++ (wrt s.size ++ (txt s ++ post))) (p : Int) (hp : p = (pre.length : Int)) :
    tL L p (s.size : Int) = txt s ∧ tK L p (s.size : Int) = p + ((wrt s.size).length : Int) + (s.size : Int) ∧ tE L p (s.size : Int) = 0 := by
  obtain ⟨g1, g2, g3⟩ := got pre (txt s ++ post) s.size (by omega) L hL p hp
  have hlen : (L.length : Int) = (pre.length : Int) + ((wrt s.size).length : Int) + (s.size : Int) + (post.length : Int) := by
    rw [hL, List.length_append, List.length_append, List.length_append, txt_length]; omega
  have e : tE L p (s.size : Int) = 0 := by
    unfold tE
    rw [g1, g2, g3, if_neg (by omega), if_neg (by omega), if_neg (by omega)]
  unfold tL tK
  rw [if_pos e, if_pos e, g1, g2]
  refine ⟨?_, rfl, e⟩
  rw [hp, show ((pre.length : Int) + ((wrt s.size).length : Int)).toNat = (pre ++ wrt s.size).length by rw [List.length_append]; omega, hL, ← List.append_assoc, List.drop_left, ← txt_length, List.take_left]

theorem f_text (l : List Int) (p m : Int) (hr : ∀ c ∈ l, 0 ≤ c ∧ c < 256) (hlen : l.length ≤ 100000) (h : tE l p m = 0) : ∃ q K : Nat, p = (q : Int) ∧ tK l p m = (K : Int) ∧ q < K ∧ K ≤ l.length ∧ (l.drop q).take (K - q) = wrt (strOfNums (tL l p m)).size ++ txt (strOfNums (tL l p m)) ∧ (strOfNums (tL l p m)).size ≤ 100000 := by
  have hg : gE l p = 0 := by
    by_cases c : gE l p = 0
    · exact c
    · unfold tE at h; rw [if_pos c] at h; exact h
  have c3 : ¬ (l.length : Int) - gK l p < (gN l p : Int) := by
    intro c
    unfold tE at h
    rw [if_neg (by omega)] at h
    split at h
    · omega
    · omega
  obtain ⟨q, K, rfl, e1, k1, k2, k3, k4⟩ := f_get l p hr hg
  have eL : tL l (q : Int) m = (l.drop K).take (gN l q) := by unfold tL; rw [if_pos h, e1]; rfl
  have eK : tK l (q : Int) m = ((K + gN l q : Nat) : Int) := by unfold tK; rw [if_pos h, e1]; omega
  have hr2 : ∀ c ∈ tL l (q : Int) m, 0 ≤ c ∧ c < 256 := fun c hc => by rw [eL] at hc; exact hr c (List.mem_of_mem_drop (List.mem_of_mem_take hc))
  have es : (strOfNums (tL l (q : Int) m)).size = gN l q := by rw [← txt_length, txt_str _ hr2, eL, cut_len _ _ _ (by omega)]
  refine ⟨q, K + gN l q, rfl, eK, by omega, by omega, ?_, by omega⟩
  rw [es, txt_str _ hr2, eL, ← k3]
  conv => lhs; rw [show K + gN l q - q = (K - q) + gN l q by omega, List.take_add, List.drop_drop, show q + (K - q) = K by omega]
theorem place_lt (acc d k : Nat) (ha : acc < 128 ^ k) (hd : d < 128) : acc + d * 128 ^ k < 128 ^ (k + 1) := by
  have : d * 128 ^ k ≤ 127 * 128 ^ k := Nat.mul_le_mul_right _ (by omega)
  rw [Nat.pow_succ]; omega
theorem place_room (acc d k : Nat) (h9 : k ≤ 9) (ha : acc < 128 ^ k) (hd : d < 128) (h : k = 9 → d ≤ 1) : acc + d * 128 ^ k < 18446744073709551616 := by
  by_cases e : k = 9
  · subst e
    have := h rfl
    have : d * 128 ^ 9 ≤ 1 * 128 ^ 9 := Nat.mul_le_mul_right _ this
    omega
  · have := place_lt acc d k ha hd
    have : 128 ^ (k + 1) ≤ 128 ^ 9 := Nat.pow_le_pow_right (by omega) (by omega)
    omega
theorem ret_get {x a b : Int} {e : Value} (h : a = b) : Ending.returned (.tuple #[.int .u64 x, .int .i64 a, e]) = .returned (.tuple #[.int .u64 x, .int .i64 b, e]) := by rw [h]
end Go.Proofs.YtilgoghnoeohnaaDoor

/- Which real number stands at a place, as a plain function. -/
namespace Go.Proofs.YtilgoghnoeohnaaDoor
open Go Go.RowKit Pk Rl
set_option maxRecDepth 20000


/- the real number at a place -/
def rR (l : List Int) (p : Int) : Nat := be ((l.drop p.toNat).take 8)
def rE (l : List Int) (p : Int) : Nat := if p < 0 ∨ (l.length : Int) < p + 8 then 3 else if bt (rR l p) = rR l p then 0 else 2
def rB (l : List Int) (p : Int) : Nat := if rE l p = 0 then rR l p else 0
def rK (l : List Int) (p : Int) : Int := if rE l p = 0 then p + 8 else 0
theorem be_snoc (l : List Int) (c : Int) : be (l ++ [c]) = be l * 256 + c.toNat := by unfold be; rw [List.foldl_append]; rfl
theorem be_lt' (l : List Int) (hr : ∀ c ∈ l, 0 ≤ c ∧ c < 256) : be l < 256 ^ l.length := by
  have := be_lt l 0 hr
  unfold be
  simpa using this

theorem rR_lt (l : List Int) (p : Int) (hr : ∀ c ∈ l, 0 ≤ c ∧ c < 256) : rR l p < 18446744073709551616 := by
  unfold rR
  have h1 := be_lt' ((l.drop p.toNat).take 8) (fun c hc => hr c (List.mem_of_mem_drop (List.mem_of_mem_take hc)))
  have h2 : 256 ^ ((l.drop p.toNat).take 8).length ≤ 256 ^ 8 := Nat.pow_le_pow_right (by omega) (by rw [List.length_take]; omega)
  omega

theorem part_lt (l : List Int) (q k : Nat) (hr : ∀ c ∈ l, 0 ≤ c ∧ c < 256) (hk : k ≤ 7) : be ((l.drop q).take k) < 72057594037927936 := by
  have h1 := be_lt' ((l.drop q).take k) (fun c hc => hr c (List.mem_of_mem_drop (List.mem_of_mem_take hc)))
  have h2 : 256 ^ ((l.drop q).take k).length ≤ 256 ^ 7 := Nat.pow_le_pow_right (by omega) (by rw [List.length_take]; omega)
  omega

theorem gotReal (pre post : List Int) (r : Nat) (hr : r < 18446744073709551616) (hb : bt r = r) (L : List Int) (hL : L = pre ++ (w8 r ++ post)) (p : Int) (hp : p = (pre.length : Int)) :
    rB L p = r ∧ rK L p = p + 8 ∧ rE L p = 0 := by
  have e1 : rR L p = r := by
    unfold rR
    rw [hp, Int.toNat_natCast, hL, List.drop_left, show 8 = (w8 r).length from rfl, List.take_left, be_w8 r hr]
  have e : rE L p = 0 := by
    unfold rE
    rw [e1, if_neg ?_, if_pos hb]
    rw [hL, hp, List.length_append, List.length_append, show (w8 r).length = 8 from rfl]; omega
  unfold rB rK
  rw [if_pos e, if_pos e]
  exact ⟨e1, rfl, e⟩

theorem f_real (l : List Int) (p : Int) (hr : ∀ c ∈ l, 0 ≤ c ∧ c < 256) (h : rE l p = 0) : ∃ q : Nat, p = (q : Int) ∧ rK l p = ((q + 8 : Nat) : Int) ∧ q + 8 ≤ l.length ∧ (l.drop q).take 8 = w8 (bt (rB l p)) ∧ rB l p < 18446744073709551616 := by
  have c1 : ¬ (p < 0 ∨ (l.length : Int) < p + 8) := by
    intro c
    unfold rE at h
    rw [if_pos c] at h
    omega
  have c2 : bt (rR l p) = rR l p := by
    unfold rE at h
    rw [if_neg c1] at h
    split at h
    · assumption
    · omega
  have e : rB l p = rR l p := by unfold rB; rw [if_pos h]
  refine ⟨p.toNat, by omega, by unfold rK; rw [if_pos h]; omega, by omega, ?_, by rw [e]; exact rR_lt l p hr⟩
  rw [e, c2]
  unfold rR
  rw [w8_be _ (by rw [List.length_take, List.length_drop]; omega) (fun c hc => hr c (List.mem_of_mem_drop (List.mem_of_mem_take hc)))]
end Go.Proofs.YtilgoghnoeohnaaDoor

/- The contract of pack.Get. -/
namespace Go.Proofs.YtilgoghnoeohnaaDoor
open Go Go.RowKit Pk
set_option maxRecDepth 20000

theorem or_place (acc d k : Nat) (ha : acc < 128 ^ k) (h : acc + d * 128 ^ k < 18446744073709551616) : bits .or .u64 (acc : Int) (IntKind.u64.wrap ((d : Int) * 2 ^ (7 * k))) = ((acc + d * 128 ^ k : Nat) : Int) := by
  have e : (d : Int) * 2 ^ (7 * k) = ((d * 128 ^ k : Nat) : Int) := by
    rw [Int.natCast_mul, Int.natCast_pow, Int.pow_mul]; rfl
  have e2 : IntKind.u64.wrap ((d * 128 ^ k : Nat) : Int) = ((d * 128 ^ k : Nat) : Int) := by rw [IntKind.wrap_u64]; omega
  rw [e, e2, or64 _ _ (by omega) (by omega)]
  congr 1
  rw [show (128 : Nat) = 2 ^ 7 from rfl, ← Nat.pow_mul] at ha ⊢
  have := Nat.two_pow_add_eq_or_of_lt ha d
  rw [Nat.mul_comm d, Nat.or_comm, ← this, Nat.add_comm]


set_option maxHeartbeats 400000 in
theorem get_any (a : Option Addr) (len cap : Nat) (l : List Int) (p : Int) (w : World) (hl : l.length = len) (hm : len ≤ 100000) (hc : len ≤ cap) (hb : Byt w a l) :
    Calls Tryd.prog 20 #[.slice a len cap, .int .i64 p] w fun e w' => e = .returned (.tuple #[.int .u64 (gN l p : Int), .int .i64 (gK l p), .int .i64 (gE l p : Int)]) ∧ w = w' := by
  by_cases c0 : p < 0 ∨ (len : Int) < p
  · have e : gv l p = (0, 0, 3) := by unfold gv; rw [if_pos (by rw [hl]; exact c0)]
    unfold gN gK gE
    rw [e]
    clear e hb hl
    by_cases c1 : p < 0
    · go_enter Tryd.func20, Tryd.ntmps20
      go_wp2
      go_ret3
      exact ⟨rfl, rfl⟩
    · have c2 : (len : Int) < p := by omega
      go_enter Tryd.func20, Tryd.ntmps20
      go_wp2
      go_ret3
      exact ⟨rfl, rfl⟩
  · obtain ⟨q, rfl⟩ : ∃ q : Nat, p = (q : Int) := ⟨p.toNat, by omega⟩
    have hq : q ≤ len := by omega
    have e : gv l (q : Int) = gt (l.drop q) 0 0 := by unfold gv; rw [if_neg (by rw [hl]; exact c0)]; rfl
    unfold gN gK gE
    rw [e]
    clear e c0
    by_cases cq : q = len
    · subst cq
      rw [show l.drop q = [] from List.drop_eq_nil_of_le (by omega)]
      have hz : decide ((0 : Int) < ((q - q : Nat) : Int)) = false := by simp
      clear hl hb hc
      go_enter Tryd.func20, Tryd.ntmps20
      go_wp2
      all_goals (go_loop [7, 22] (fun _ i => i = .int .i64 0) (fun _ i => 0 - (intOf i).toNat))
      case atStart => rfl
      case round =>
        subst hrel
        go_wp2
        go_ret3
        exact ⟨rfl, rfl⟩
      case atStart => rfl
      case round =>
        subst hrel
        go_wp2
        go_ret3
        exact ⟨rfl, rfl⟩
    · have hq2 : q < len := by omega
      obtain ⟨b, off, rfl, _⟩ := hb.1 0 (by omega)
      have hcq : (cap = q) = False := by simp; omega
      have HL := Lib.hid hl
      have HB := Lib.hid hb
      have ed : ((len - q : Nat) : Int) = (len : Int) - (q : Int) := by omega
      clear hl hb cq hq
      obtain ⟨r, R⟩ : ∃ r, r = gt (l.drop q) 0 0 := ⟨_, rfl⟩
      rw [← R]
      obtain ⟨rn, rk, re⟩ := r
      have HR := Lib.hid R
      clear R
      show Calls Tryd.prog 20 _ w fun e w' => e = .returned (.tuple #[.int .u64 (rn : Int), .int .i64 (if re = 0 then (q : Int) + (rk : Int) else 0), .int .i64 (re : Int)]) ∧ w = w'
      go_enter Tryd.func20, Tryd.ntmps20
      go_wp2
      go_loop [7, 22] (fun t i => ∃ k acc : Nat, k ≤ len - q ∧ k ≤ 9 ∧ i = .int .i64 k ∧ t = .int .u64 acc ∧ acc < 18446744073709551616 ∧ Hid (acc < 128 ^ k ∧ (rn, rk, re) = gt (l.drop (q + k)) k acc)) (fun _ i => len - (intOf i).toNat)
      case atStart => exact ⟨0, 0, by omega, by omega, rfl, rfl, by omega, Lib.hid ⟨by simp, HR.out⟩⟩
      case round =>
        obtain ⟨k, acc, hk, h9, rfl, rfl, ha, H⟩ := hrel
        by_cases c1 : k < len - q
        · obtain ⟨ha2, hr⟩ := H.out
          rw [drop_cons l (q + k) (by rw [HL.out]; omega), gt] at hr
          obtain ⟨b', off', eb, hcell⟩ := HB.out.1 (q + k) (by rw [HL.out]; omega)
          injection eb with eb
          injection eb with eb1 eb2 _
          subst eb1
          subst eb2
          have hrng := HB.out.2 (l.getD (q + k) 0) (by rw [List.getD_eq_getElem?_getD, List.getElem?_eq_getElem (by rw [HL.out]; omega)]; exact List.getElem_mem _)
          generalize l.getD (q + k) 0 = c at hr hcell hrng
          obtain ⟨r0, r1⟩ := hrng
          rw [← Nat.add_assoc] at hcell
          clear H
          by_cases c2 : k = 9 ∧ 1 < c
          · rw [if_pos c2] at hr
            simp only [Prod.mk.injEq] at hr
            obtain ⟨rfl, rfl, rfl⟩ := hr
            obtain ⟨c3, c4⟩ := c2
            subst c3
            clear ha2
            go_wp2
            go_ret3
            exact ⟨rfl, rfl⟩
          · rw [if_neg c2] at hr
            obtain ⟨d, hd⟩ : ∃ d : Nat, d = c.toNat % 128 := ⟨_, rfl⟩
            have an : bits .andNot .u8 c 128 = (d : Int) := by rw [hd]; exact andNot_u8 c r0 r1
            have hd2 : d < 128 := by omega
            have rm := place_room acc d k h9 ha2 hd2 (by omega)
            have orp := or_place acc d k ha2 rm
            by_cases c3 : 128 ≤ c
            · rw [if_pos c3, ← hd] at hr
              have hk9 : k ≠ 9 := by omega
              have k9 : ((k : Int) == 9) = false := by simp; omega
              have HP := Lib.hid (place_lt acc d k ha2 hd2)
              have HR2 := Lib.hid hr
              clear ha2 hr c2 hd
              generalize acc + d * 128 ^ k = acc2 at orp rm HP HR2
              go_wp2
              go_round
              case rel => exact ⟨k + 1, acc2, by omega, by omega, by go_num, rfl, rm, Lib.hid ⟨HP.out, by rw [← Nat.add_assoc]; exact HR2.out⟩⟩
              case measure => simp [intOf]; omega
            · rw [if_neg c3] at hr
              by_cases c4 : c = 0 ∧ 0 < k
              · rw [if_pos c4] at hr
                simp only [Prod.mk.injEq] at hr
                obtain ⟨rfl, rfl, rfl⟩ := hr
                obtain ⟨c5, c6⟩ := c4
                subst c5
                have c7 : decide ((0 : Int) < (k : Int)) = true := by simp; omega
                clear ha2 c2 hd
                by_cases c8 : k = 9
                · have k9 : ((k : Int) == 9) = true := by simp; omega
                  clear c8
                  go_wp2
                  go_ret3
                  exact ⟨rfl, rfl⟩
                · have k9 : ((k : Int) == 9) = false := by simp; omega
                  go_wp2
                  go_ret3
                  exact ⟨rfl, rfl⟩
              · rw [if_neg c4, show c.toNat = d by omega] at hr
                clear ha2 hd
                generalize acc + d * 128 ^ k = acc2 at orp rm hr
                simp only [Prod.mk.injEq] at hr
                obtain ⟨rfl, rfl, rfl⟩ := hr
                have h128 : decide ((128 : Int) ≤ c) = false := by simp; omega
                by_cases c8 : k = 9
                · have k9 : ((k : Int) == 9) = true := by simp; omega
                  have c9 : decide ((1 : Int) < c) = false := by simp; omega
                  have c10 : (c == 0) = false := by simp; omega
                  clear c8
                  go_wp2
                  go_ret3
                  exact ⟨ret_get (show (q : Int) + (k : Int) + 1 = if (0 : Nat) = 0 then (q : Int) + ((k + 1 : Nat) : Int) else 0 by rw [if_pos rfl]; omega), rfl⟩
                · have k9 : ((k : Int) == 9) = false := by simp; omega
                  by_cases c11 : c = 0
                  · have c12 : decide ((0 : Int) < (k : Int)) = false := by simp; omega
                    subst c11
                    go_wp2
                    go_ret3
                    exact ⟨ret_get (show (q : Int) + (k : Int) + 1 = if (0 : Nat) = 0 then (q : Int) + ((k + 1 : Nat) : Int) else 0 by rw [if_pos rfl]; omega), rfl⟩
                  · have c12 : (c == 0) = false := by simp; omega
                    go_wp2
                    go_ret3
                    exact ⟨ret_get (show (q : Int) + (k : Int) + 1 = if (0 : Nat) = 0 then (q : Int) + ((k + 1 : Nat) : Int) else 0 by rw [if_pos rfl]; omega), rfl⟩
        · obtain ⟨ha2, hr⟩ := H.out
          rw [show l.drop (q + k) = [] from List.drop_eq_nil_of_le (by rw [HL.out]; omega), gt] at hr
          simp only [Prod.mk.injEq] at hr
          obtain ⟨rfl, rfl, rfl⟩ := hr
          have hz : decide ((k : Int) < (len : Int) - (q : Int)) = false := by simp; omega
          clear H ha2
          go_wp2
          go_ret3
          exact ⟨rfl, rfl⟩
end Go.Proofs.YtilgoghnoeohnaaDoor

/- The contract of pack.GetInt. -/
namespace Go.Proofs.YtilgoghnoeohnaaDoor
open Go Go.RowKit Pk
set_option maxRecDepth 20000

set_option maxHeartbeats 400000 in
theorem getInt_any (a : Option Addr) (len cap : Nat) (l : List Int) (p : Int) (w : World) (hl : l.length = len) (hm : len ≤ 100000) (hc : len ≤ cap) (hb : Byt w a l) :
    Calls Tryd.prog 93 #[.slice a len cap, .int .i64 p] w fun e w' => e = .returned (.tuple #[.int .i64 (sg (gN l p)), .int .i64 (gK l p), .int .i64 (gE l p : Int)]) ∧ w = w' := by
  have G := Lib.hid (get_any a len cap l p w hl hm hc hb)
  have lt := g_lt l p hb.2
  by_cases c : gE l p = 0
  · rw [c] at G ⊢
    generalize gN l p = n at G lt
    generalize gK l p = k at G
    clear hl hb hc hm
    have an := and64_one n lt
    by_cases c2 : n % 2 = 1
    · have E := Lib.hid (show sg n = -((n / 2 : Nat) : Int) - 1 by unfold sg; rw [if_pos c2])
      rw [c2] at an
      obtain ⟨m, hm⟩ : ∃ m : Nat, m = n / 2 := ⟨_, rfl⟩
      have e1 : (n : Int) / 2 = (m : Int) := by omega
      have nt := not_i64 (m : Int) (by omega) (by omega)
      have hm3 : m < 9223372036854775808 := by omega
      rw [← hm] at E
      rw [E.out]
      clear hm c2
      go_enter Tryd.func93, Tryd.ntmps93
      go_wp2_with fail
      refine G.out.mono ?_
      rintro e w' ⟨rfl, rfl⟩
      go_wp2
      go_ret3
      exact ⟨rfl, rfl⟩
    · have E := Lib.hid (show sg n = ((n / 2 : Nat) : Int) by unfold sg; rw [if_neg c2])
      rw [show n % 2 = 0 by omega] at an
      obtain ⟨m, hm⟩ : ∃ m : Nat, m = n / 2 := ⟨_, rfl⟩
      have e1 : (n : Int) / 2 = (m : Int) := by omega
      have hm3 : m < 9223372036854775808 := by omega
      rw [← hm] at E
      rw [E.out]
      clear hm c2
      go_enter Tryd.func93, Tryd.ntmps93
      go_wp2_with fail
      refine G.out.mono ?_
      rintro e w' ⟨rfl, rfl⟩
      go_wp2
      go_ret3
      exact ⟨rfl, rfl⟩
  · obtain ⟨z1, z2⟩ := g_err l p c
    rw [z1, z2] at G ⊢
    rw [show sg 0 = 0 from rfl]
    generalize gE l p = z at G c
    have hz : ((z : Int) != 0) = true := by simp; omega
    clear hl hb hc hm c z1 z2 lt
    go_enter Tryd.func93, Tryd.ntmps93
    go_wp2_with fail
    refine G.out.mono ?_
    rintro e w' ⟨rfl, rfl⟩
    go_wp2
    go_ret3
    exact ⟨rfl, rfl⟩
end Go.Proofs.YtilgoghnoeohnaaDoor

/- The contract of pack.GetText. -/
namespace Go.Proofs.YtilgoghnoeohnaaDoor
open Go Go.RowKit Pk
set_option maxRecDepth 20000

set_option maxHeartbeats 400000 in
theorem getText_any (a : Option Addr) (len cap : Nat) (l : List Int) (p m : Int) (w : World) (hl : l.length = len) (hm : len ≤ 100000) (hc : len ≤ cap) (h0 : -9223372036854775808 ≤ m) (h1 : m ≤ 9223372036854775807) (hb : Byt w a l) :
    Calls Tryd.prog 95 #[.slice a len cap, .int .i64 p, .int .i64 m] w fun e w' => e = .returned (.tuple #[.string (strOfNums (tL l p m)), .int .i64 (tK l p m), .int .i64 (tE l p m : Int)]) ∧ w = w' := by
  have G := Lib.hid (get_any a len cap l p w hl hm hc hb)
  have lt := g_lt l p hb.2
  by_cases c : gE l p = 0
  · obtain ⟨o1, o2, o3, _, _⟩ := g_ok l p hb.2 c
    obtain ⟨M, hM⟩ : ∃ M : Nat, max m 0 = (M : Int) := ⟨(max m 0).toNat, by omega⟩
    by_cases c2 : max m 0 < (gN l p : Int)
    · have e : tE l p m = 4 := by unfold tE; rw [if_neg (by omega), if_pos c2]
      obtain ⟨z1, z2⟩ := t_bad l p m 4 e (by omega)
      rw [e, z1, z2]
      rw [c] at G
      clear e z1 z2
      generalize gN l p = n at G lt c2
      generalize gK l p = k at G
      clear hl hb hc
      go_enter Tryd.func95, Tryd.ntmps95
      go_wp2_with fail
      refine G.out.mono ?_
      rintro e w' ⟨rfl, rfl⟩
      go_wp2
      go_ret3
      exact ⟨rfl, rfl⟩
    · obtain ⟨K, hK⟩ : ∃ K : Nat, gK l p = (K : Int) := ⟨(gK l p).toNat, by omega⟩
      rw [c, hK] at G
      by_cases c3 : (l.length : Int) - gK l p < (gN l p : Int)
      · have e : tE l p m = 3 := by unfold tE; rw [if_neg (by omega), if_neg c2, if_pos c3]
        obtain ⟨z1, z2⟩ := t_bad l p m 3 e (by omega)
        rw [e, z1, z2]
        clear e z1 z2
        rw [hK, hl] at o3 c3
        generalize gN l p = n at G lt c2 c3
        have d2 : decide (M < n) = false := by simp; omega
        have hKl : K ≤ len := by omega
        clear hl hb hc c2
        go_enter Tryd.func95, Tryd.ntmps95
        go_wp2_with fail
        refine G.out.mono ?_
        rintro e w' ⟨rfl, rfl⟩
        go_wp2
        go_ret3
        exact ⟨rfl, rfl⟩
      · have e : tE l p m = 0 := by unfold tE; rw [if_neg (by omega), if_neg c2, if_neg c3]
        rw [show tK l p m = gK l p + (gN l p : Int) by unfold tK; rw [if_pos e], show tL l p m = (l.drop (gK l p).toNat).take (gN l p) by unfold tL; rw [if_pos e], e, hK, Int.toNat_natCast]
        clear e
        rw [hK, hl] at o3 c3
        have HL := Lib.hid (cut_len l K (gN l p) (by omega))
        obtain ⟨b, off, rfl, _⟩ := hb.1 0 (by omega)
        have HT := Lib.hid (byt_cut hb K (gN l p) (by omega))
        generalize (l.drop K).take (gN l p) = t at HT HL
        generalize gN l p = n at G lt c2 c3 HT HL
        have hKl : K + n ≤ len := by omega
        have d2 : decide (M < n) = false := by simp; omega
        by_cases c4 : cap = K
        · have hn : n = 0 := by omega
          subst hn
          obtain rfl : t = [] := List.eq_nil_of_length_eq_zero HL.out
          have st := run_str w (some ⟨b, off, none⟩) 0 0 [] rfl ⟨fun i hi => absurd hi (by simp), by simp⟩
          clear hl hb c2 hK
          subst c4
          go_enter Tryd.func95, Tryd.ntmps95
          go_wp2_with fail
          refine G.out.mono ?_
          rintro e w' ⟨rfl, rfl⟩
          go_wp2
          go_ret3
          exact ⟨rfl, rfl⟩
        · have hcq : (cap = K) = False := by simp; omega
          have st := run_str w (some ⟨b, off + K, none⟩) n (cap - K) t HL.out HT.out
          clear hl hb c2 hK c4
          go_enter Tryd.func95, Tryd.ntmps95
          go_wp2_with fail
          refine G.out.mono ?_
          rintro e w' ⟨rfl, rfl⟩
          go_wp2
          go_ret3
          exact ⟨rfl, rfl⟩
  · have e : tE l p m = gE l p := by unfold tE; rw [if_pos c]
    obtain ⟨z3, z4⟩ := t_bad l p m _ e c
    obtain ⟨z1, z2⟩ := g_err l p c
    rw [e, z3, z4]
    rw [z1, z2] at G
    generalize gE l p = z at G c
    have hz : ((z : Int) != 0) = true := by simp; omega
    clear hl hb hc hm c z1 z2 lt e z3 z4
    go_enter Tryd.func95, Tryd.ntmps95
    go_wp2_with fail
    refine G.out.mono ?_
    rintro e w' ⟨rfl, rfl⟩
    go_wp2
    go_ret3
    exact ⟨rfl, rfl⟩
end Go.Proofs.YtilgoghnoeohnaaDoor

/- The contract of pack.GetReal. -/
namespace Go.Proofs.YtilgoghnoeohnaaDoor
open Go Go.RowKit Pk Rl
set_option maxRecDepth 20000

theorem or_byte (r c : Nat) (hr : r < 72057594037927936) (hc : c < 256) : bits .or .u64 ((r : Int) * 256) (c : Int) = ((r * 256 + c : Nat) : Int) := by
  rw [show (r : Int) * 256 = ((r * 256 : Nat) : Int) by omega, or64 _ _ (by omega) (by omega)]
  congr 1
  have := Nat.two_pow_add_eq_or_of_lt (b := c) (i := 8) (by omega) r
  rw [Nat.mul_comm r 256]
  exact this.symm

set_option maxHeartbeats 400000 in
theorem getReal_any (a : Option Addr) (len cap : Nat) (l : List Int) (p : Int) (w : World) (hl : l.length = len) (hm : len ≤ 100000) (hc : len ≤ cap) (h0 : -9223372036854775808 ≤ p) (h1 : p ≤ 9223372036854775807) (hb : Byt w a l) :
    Calls Tryd.prog 94 #[.slice a len cap, .int .i64 p] w fun e w' => e = .returned (.tuple #[.float .f64 (rB l p), .int .i64 (rK l p), .int .i64 (rE l p : Int)]) ∧ w = w' := by
  by_cases c0 : p < 0 ∨ (len : Int) < p + 8
  · have e : rE l p = 3 := by unfold rE; rw [if_pos (by rw [hl]; exact c0)]
    rw [show rB l p = 0 by unfold rB; rw [if_neg (by omega)], show rK l p = 0 by unfold rK; rw [if_neg (by omega)], e]
    clear e hb hl hc
    by_cases c1 : p < 0
    · go_enter Tryd.func94, Tryd.ntmps94
      go_wp2
      go_ret3
      exact ⟨rfl, rfl⟩
    · by_cases c2 : (len : Int) < p
      · go_enter Tryd.func94, Tryd.ntmps94
        go_wp2
        go_ret3
        exact ⟨rfl, rfl⟩
      · have c3 : (len : Int) - p < 8 := by omega
        go_enter Tryd.func94, Tryd.ntmps94
        go_wp2
        go_ret3
        exact ⟨rfl, rfl⟩
  · obtain ⟨q, rfl⟩ : ∃ q : Nat, p = (q : Int) := ⟨p.toNat, by omega⟩
    have hq : q + 8 ≤ len := by omega
    obtain ⟨b, off, rfl, _⟩ := hb.1 0 (by omega)
    have hcq : (cap = q) = False := by simp; omega
    have e1 : rR l (q : Int) = be ((l.drop q).take 8) := rfl
    have lt := rR_lt l q hb.2
    have e2 : rE l (q : Int) = if bt (rR l q) = rR l q then 0 else 2 := by unfold rE; rw [if_neg (by rw [hl]; exact c0)]
    have F := Lib.hid (fun w => from_any (rR l q) lt w)
    have HL := Lib.hid hl
    have HB := Lib.hid hb
    have d1 : (len : Int) - (q : Int) < 8 ↔ False := by simp; omega
    obtain ⟨vb, vk, ve, V, V1, V2, V3⟩ : ∃ vb vk ve, ((decide (bt (rR l q) = rR l q) = true → vb = (if bt (rR l q) = rR l q then rR l q else 0) ∧ vk = (q : Int) + 8 ∧ ve = 0) ∧ (decide (bt (rR l q) = rR l q) = false → vb = 0 ∧ vk = 0 ∧ ve = 2)) ∧ rB l q = vb ∧ rK l q = vk ∧ rE l q = ve := by
      refine ⟨_, _, _, ?_, rfl, rfl, rfl⟩
      unfold rB rK
      rw [e2]
      by_cases c : bt (rR l q) = rR l q
      · simp [c]
      · simp [c]
    rw [V1, V2, V3]
    clear hl hb c0 e2 V1 V2 V3
    generalize rR l q = r at F e1 lt V
    have E1 := Lib.hid e1
    have HV := Lib.hid V
    clear e1 V
    generalize (if bt r = r then r else 0) = v0 at F HV
    generalize decide (bt r = r) = fo at F HV
    go_enter Tryd.func94, Tryd.ntmps94
    go_wp2
    go_loop [8, 35] (fun t i => ∃ k : Nat, k ≤ 8 ∧ i = .int .i64 k ∧ t = .int .u64 ((be ((l.drop q).take k) : Nat) : Int)) (fun _ i => 8 - (intOf i).toNat)
    case atStart => exact ⟨0, by omega, rfl, rfl⟩
    case round =>
      obtain ⟨k, hk, rfl, rfl⟩ := hrel
      by_cases c1 : k < 8
      · have S := Lib.hid (take_step l q k (by rw [HL.out]; omega))
        obtain ⟨b', off', eb, hcell⟩ := HB.out.1 (q + k) (by rw [HL.out]; omega)
        injection eb with eb
        injection eb with eb1 eb2 _
        subst eb1
        subst eb2
        have hrng := HB.out.2 (l.getD (q + k) 0) (by rw [List.getD_eq_getElem?_getD, List.getElem?_eq_getElem (by rw [HL.out]; omega)]; exact List.getElem_mem _)
        have pl := part_lt l q k HB.out.2 (by omega)
        generalize l.getD (q + k) 0 = c at hcell hrng S
        obtain ⟨x, rfl⟩ : ∃ x : Nat, c = (x : Int) := ⟨c.toNat, by omega⟩
        have T := Lib.hid (show be ((l.drop q).take (k + 1)) = be ((l.drop q).take k) * 256 + x by rw [S.out, be_snoc]; rfl)
        generalize be ((l.drop q).take k) = acc at pl T
        have hx : x < 256 := by omega
        have ob := or_byte acc x pl hx
        rw [← Nat.add_assoc] at hcell
        clear S hrng
        generalize acc * 256 + x = acc2 at ob T
        go_wp2
        go_round
        case rel => exact ⟨k + 1, by omega, by go_num, by rw [T.out]⟩
        case measure => simp [intOf]; omega
      · obtain rfl : k = 8 := by omega
        rw [← E1.out]
        clear E1
        go_wp2_with fail
        refine (F.out _).mono ?_
        rintro e w' ⟨rfl, rfl⟩
        cases fo
        · obtain ⟨rfl, rfl, rfl⟩ := HV.out.2 rfl
          go_wp2
          go_ret3
          exact ⟨rfl, rfl⟩
        · obtain ⟨rfl, rfl, rfl⟩ := HV.out.1 rfl
          go_wp2
          go_ret3
          exact ⟨rfl, rfl⟩
end Go.Proofs.YtilgoghnoeohnaaDoor
