/- The front of bytes, bytes copied, what is read. -/
import Derived.Test.YtcodihgjfhoepaaGreatDoorDkRef
namespace Go.Proofs.YtcodihgjfhoepaaGreatDoor
open Go Go.RowKit
set_option maxRecDepth 20000

theorem Own.capz {w : World} {B : Nat} {A : Option Addr} {k c : Nat} {l : List Int} (h : Own w B (.slice A k c) l) (hA : A = none) : c = 0 := by
  rcases h.2 with ⟨h', _⟩ | ⟨g, cap, cur, h', _⟩
  · injection h'
  · injection h' with e1 e2 e3
    rw [hA] at e1
    cases e1
theorem wp_appb {ops : Array Oper} {rest : List Oper} {o : Oper} {a : Act} {Q : Exit → Act → World → Prop} (w : World) (hgd : o.guard = none) (s x : Operand)
    (hop : o.op = .call { callee := .builtin .append, args := #[s, x], argTypes := #[29, 29] })
    (B : Nat) (v : Value) (xs : List Int) (hs : a.eval s = v) (ho : Own w B v xs) (A : Option Addr) (m c : Nat) (l : List Int) (hx : a.eval x = .slice A m c) (hm : l.length = m) (hb : Byt w A l) (hc : A = none → c = 0)
    (hr : ∀ c ∈ xs, 0 ≤ c ∧ c < 256) (k : Nat) (hk : (xs ++ l).length = k) (hlen : k ≤ 100000000) (hB : B ≤ w.heap.size)
    (h : ∀ A' c' w', Own w' B (.slice A' k c') (xs ++ l) → w.grownBy w' v.ownBlock → ((Value.slice A' k c').ownBlock = v.ownBlock ∨ (Value.slice A' k c').ownBlock = some w.heap.size) → wpList Tryz.prog ops Q rest (a.put o.dst (.slice A' k c')) w') : wpList Tryz.prog ops Q (o :: rest) a w := by
  refine wpList_plain hgd fun K hK => ?_
  have hlen2 : xs.length + m ≤ 100000000 := by rw [List.length_append] at hk; omega
  obtain ⟨v', w', hrun, h2, h3, h4⟩ := run_appb w B o.type v xs ho A m c l hm hb hc hlen2 hB
  obtain ⟨A', c', rfl, _⟩ := h2.form (range_app hr hb.2)
  rw [hk] at h2 hrun h4
  unfold Oper.wp
  simp [execOp, hop, resolve, invoke, builtin, hs, hx, hrun, Result.andThen]
  exact hK _ _ (h A' c' w' h2 h3 h4)
theorem Byt.take {w : World} {A : Option Addr} {l : List Int} (h : Byt w A l) (n : Nat) : Byt w A (l.take n) := by
  refine ⟨fun i hi => ?_, fun c hc => h.2 c (List.mem_of_mem_take hc)⟩
  rw [List.length_take] at hi
  obtain ⟨b, off, e, hc⟩ := h.1 i (by omega)
  refine ⟨b, off, e, ?_⟩
  rw [hc]
  have : i < n := by omega
  simp [List.getD_eq_getElem?_getD, this]
theorem grown_none {w w' : World} (h : w.grownBy w' (Value.slice none 0 0).ownBlock) : Below w.heap.size w w' := grown_below h
set_option maxHeartbeats 1000000 in
theorem front_any (w : World) (A : Option Addr) (q c n : Nat) (l : List Int) (hl : l.length = q) (hb : Byt w A l) (hc : q ≤ c) (hz : A = none → c = 0) (hn : n ≤ q) (hq : q ≤ 100000000) :
    Calls Tryz.prog 39 #[.slice A q c, .int .i64 (n : Int)] w fun e w' => ∃ A' c', e = .returned (.slice A' n c') ∧ Own w' w.heap.size (.slice A' n c') (l.take n) ∧ Below w.heap.size w w' := by
  have h0 : (0 : Int) ≤ (n : Int) := by omega
  have h1 : (n : Int) ≤ (c : Int) := by omega
  have HB := Lib.hid (hb.take n)
  have HL := Lib.hid (show (l.take n).length = n by rw [List.length_take]; omega)
  have HZ := Lib.hid hz
  have HK := Lib.hid (show ([] ++ l.take n).length = n by rw [List.nil_append, List.length_take]; omega)
  clear hb hl hz
  go_enter Tryz.func39, Tryz.ntmps39
  go_wp2_with (at_builtin; refine wp_appb _ rfl _ _ rfl w.heap.size _ [] rfl (Own.nil _ _) A n c (l.take n) rfl HL.out HB.out HZ.out (by simp) n HK.out (by omega) (Nat.le_refl _) ?_; intro A' c' w1 hO1 hg1 hw1)
  have R := Lib.hid (And.intro hO1 (grown_none hg1))
  clear hO1 hg1 hw1
  go_wp2_with fail
  go_ret
  exact ⟨A', c', rfl, by simpa using R.out.1, R.out.2⟩
set_option maxHeartbeats 1000000 in
theorem clone_any (w : World) (A : Option Addr) (q c : Nat) (l : List Int) (hl : l.length = q) (hb : Byt w A l) (hz : A = none → c = 0) (hq : q ≤ 100000000) :
    Calls Tryz.prog 98 #[.slice A q c] w fun e w' => ∃ A' c', e = .returned (.slice A' q c') ∧ Own w' w.heap.size (.slice A' q c') l ∧ Below w.heap.size w w' := by
  rcases A with _ | ad
  · have hl0 : l = [] := by
      rcases l with _ | ⟨x, l⟩
      · rfl
      · obtain ⟨b, off, h, _⟩ := hb.1 0 (by simp)
        cases h
    subst hl0
    subst hl
    have en : ∀ w, (binOp .eql 29 (.slice none 0 c) (.slice none 0 0)).run Tryz.prog w = .ok (.bool true) w := fun w => Lib.run_eql_slice_nil w 29 5 none 0 c 0 0 Tryz.underlying29
    clear hb hz
    go_enter Tryz.func98, Tryz.ntmps98
    go_wp2
    go_ret
    exact ⟨none, 0, rfl, Own.nil _ _, Below.refl _ _⟩
  · have HN := Lib.hid hl
    have B0 := Lib.hid (below_alloc w (.cells #[] 5))
    have HV := Lib.hid (hb.below B0.out)
    have O0 := Lib.hid (Own.empty w)
    have HK := Lib.hid (show ([] ++ l).length = q by simpa using hl)
    have en : ∀ w, (binOp .eql 29 (.slice (some ad) q c) (.slice none 0 0)).run Tryz.prog w = .ok (.bool false) w := fun w => Lib.run_eql_slice_nil w 29 5 (some ad) q c 0 0 Tryz.underlying29
    clear hl hb hz
    go_enter Tryz.func98, Tryz.ntmps98
    go_wp2_with (at_builtin; refine wp_appb _ rfl _ _ rfl w.heap.size _ [] rfl O0.out (some ad) q c l rfl HN.out HV.out (by intro h; cases h) (by simp) q HK.out (by omega) B0.out.size ?_; intro A' c' w1 hO1 hg1 hw1)
    have R := Lib.hid (And.intro hO1 (B0.out.trans ((Below.refl w.heap.size _).grown hg1 B0.out.size (fun k hk => (O0.out.lt k hk).1))))
    clear hO1 hg1 hw1
    go_wp2_with fail
    go_ret
    exact ⟨A', c', rfl, by simpa using R.out.1, R.out.2⟩
theorem read_nil (s : ByteArray) (w : World) : Calls Tryz.prog 65 #[.pointer none, .string s] w fun e w' => e = .returned (.tuple #[.slice none 0 0, .int .i64 9]) ∧ w = w' := by
  have C := Lib.hid (up_nil w)
  go_enter Tryz.func65, Tryz.ntmps65
  go_wp2_with fail
  refine C.out.mono ?_
  rintro e w1 ⟨rfl, rfl⟩
  go_wp2_with fail
  go_ret2
  exact ⟨rfl, rfl⟩
theorem read_down {w : World} {d m : Nat} {V : ByteArray → Value} {S : St} (h : Dk w d m V S) (s : ByteArray) (hu : S.up = false) :
    Calls Tryz.prog 65 #[ptr d, .string s] w fun e w' => e = .returned (.tuple #[.slice none 0 0, .int .i64 9]) ∧ w = w' := by
  have C := Lib.hid (up_any h)
  rw [hu] at C
  clear h hu
  go_enter Tryz.func65, Tryz.ntmps65
  go_wp2_with fail
  refine C.out.mono ?_
  rintro e w1 ⟨rfl, rfl⟩
  go_wp2_with fail
  go_ret2
  exact ⟨rfl, rfl⟩
set_option maxHeartbeats 1000000 in
theorem read_none {w : World} {d m : Nat} {V : ByteArray → Value} {S : St} (h : Dk w d m V S) (s : ByteArray) (hs : s.size ≤ maxLen) (hu : S.up = true) (hf : fnd S.fs s = none) :
    Calls Tryz.prog 65 #[ptr d, .string s] w fun e w' => e = .returned (.tuple #[.slice none 0 0, .int .i64 8]) ∧ Below w.heap.size w w' := by
  have C := Lib.hid (up_any h)
  rw [hu] at C
  have c1 := h.c1
  have L := h.mp.look hs
  rw [tell_none hf] at L
  simp only [Option.getD_none, Option.isSome_none, zf] at L
  clear h hu hf
  go_enter Tryz.func65, Tryz.ntmps65
  go_wp2_with fail
  refine C.out.mono ?_
  rintro e w1 ⟨rfl, rfl⟩
  clear C
  go_wp2_with fail
  go_ret2
  exact ⟨rfl, below_alloc _ _⟩
set_option maxHeartbeats 1000000 in
theorem read_some {w : World} {d m : Nat} {V : ByteArray → Value} {S : St} (h : Dk w d m V S) (s : ByteArray) (hs : s.size ≤ maxLen) (hu : S.up = true) (f : Fl) (hf : fnd S.fs s = some f) :
    Calls Tryz.prog 65 #[ptr d, .string s] w fun e w' => ∃ A' c', e = .returned (.tuple #[.slice A' f.bs.length c', .int .i64 0]) ∧ Own w' w.heap.size (.slice A' f.bs.length c') f.bs ∧ Below w.heap.size w w' := by
  have C := Lib.hid (up_any h)
  rw [hu] at C
  have c1 := h.c1
  have L := h.mp.look hs
  obtain ⟨A, c, eV, hO, hB, _, hl⟩ := h.file hf
  rw [tell_some hf, eV] at L
  simp only [Option.getD_some, Option.isSome_some] at L
  have b0 := below_alloc w (.cells #[.slice A f.bs.length c, .int .i64 (f.sf : Int)] 87)
  have C2 := Lib.hid (clone_any _ A f.bs.length c f.bs rfl (hB.below b0) hO.capz (by omega))
  have B0 := Lib.hid b0
  clear h hu hf b0 eV hO hB
  generalize f.bs = l at *
  generalize f.sf = sf at *
  generalize hq : l.length = q at *
  have HQ := Lib.hid hq
  clear hq
  go_enter Tryz.func65, Tryz.ntmps65
  go_wp2_with fail
  refine C.out.mono ?_
  rintro e w1 ⟨rfl, rfl⟩
  clear C
  go_wp2_with fail
  refine C2.out.mono ?_
  rintro e w2 ⟨A2, c2, rfl, h1, h2⟩
  have R := Lib.hid (And.intro h1 h2)
  clear h1 h2 C2 L
  go_wp2_with fail
  go_ret2
  refine ⟨A2, c2, rfl, R.out.1.base (fun k hk => ?_), below_go B0.out R.out.2⟩
  have := (R.out.1.lt k hk).1
  have := B0.out.size
  omega
end Go.Proofs.YtcodihgjfhoepaaGreatDoor
