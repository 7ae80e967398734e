/- Rows of records and their ends: plain facts; the document's Great; rows of numbers of one's own. -/
import Derived.Test.YteiajbeoglmmmaaDoorRcH
import Derived.Lib.MinMax
namespace Go.Proofs.YteiajbeoglmmmaaDoor
open Go Go.RowKit Crc
set_option maxRecDepth 20000

theorem take_next (L : List (List Int)) (k : Nat) (h : k < L.length) : L.take (k + 1) = L.take k ++ [g0 L k] := by
  rw [List.take_succ_eq_append_getElem h, g0, List.getD_eq_getElem?_getD, List.getElem?_eq_getElem h]; rfl
theorem rows_app (L M : List (List Int)) : rows (L ++ M) = rows L ++ rows M := by simp [rows]
theorem rows_next (L : List (List Int)) (k : Nat) (h : k < L.length) : rows (L.take (k + 1)) = rows (L.take k) ++ fr (g0 L k) := by
  rw [take_next L k h, rows_app]; simp [rows]
def gsk (L : List (List Int)) : Nat → Nat
  | 0 => L.length
  | k + 1 => gsk L k + min (g0 L k).length 9000
theorem gsk_le (L : List (List Int)) (k : Nat) : gsk L k ≤ L.length + 9000 * k := by
  induction k with
  | zero => simp [gsk]
  | succ k ih => rw [gsk]; omega
theorem gsk_mono (L : List (List Int)) (k m : Nat) (h : k ≤ m) : gsk L k ≤ gsk L m := by
  induction m with
  | zero => obtain rfl : k = 0 := by omega
            exact Nat.le_refl _
  | succ m ih =>
    by_cases e : k = m + 1
    · subst e; exact Nat.le_refl _
    · have := ih (by omega)
      rw [gsk]; omega
theorem gsk_len (L : List (List Int)) (h : gsk L L.length ≤ 8000) (i : Nat) (hi : i < L.length) : (g0 L i).length ≤ 8000 ∧ min (g0 L i).length 9000 = (g0 L i).length := by
  have := gsk_mono L (i + 1) L.length (by omega)
  rw [gsk] at this
  omega
theorem rows_bound (L : List (List Int)) (h : gsk L L.length ≤ 8000) (k : Nat) (hk : k ≤ L.length) : (rows (L.take k)).length + L.length = 8 * k + gsk L k := by
  induction k with
  | zero => simp [rows, gsk]
  | succ k ih =>
    rw [rows_next L k (by omega), List.length_append, fr_len, gsk, (gsk_len L h k (by omega)).2]
    have := ih (by omega)
    omega
theorem rows_small (L : List (List Int)) (h : gsk L L.length ≤ 8000) (h2 : L.length ≤ 200) (k : Nat) (hk : k ≤ L.length) : (rows (L.take k)).length ≤ 9600 := by
  have := rows_bound L h k hk
  have := gsk_mono L k L.length hk
  omega
theorem all_len (L : List (List Int)) (h : gsk L L.length ≤ 8000) : ∀ l ∈ L, l.length ≤ 65536 := by
  intro l hl
  obtain ⟨i, hi, rfl⟩ := List.getElem_of_mem hl
  have := (gsk_len L h i hi).1
  rw [g0, List.getD_eq_getElem?_getD, List.getElem?_eq_getElem hi, Option.getD_some] at this
  omega
set_option maxHeartbeats 1000000 in
theorem great_many (A : Option Addr) (n c : Nat) (w : World) (h : 200 < n) :
    Calls Tryd.prog 16 #[.slice A n c] w fun e w' => e = .returned (.bool true) ∧ w = w' := by
  have d : decide ((200 : Int) < (n : Int)) = true := by simp; omega
  go_enter Tryd.func16, Tryd.ntmps16
  go_wp2
  go_ret
  exact ⟨rfl, rfl⟩
set_option maxHeartbeats 1000000 in
theorem great_few (A : Option Addr) (n c : Nat) (L : List (List Int)) (w : World) (hn : L.length = n) (h : n ≤ 200) (hx : Rws w A L) :
    Calls Tryd.prog 16 #[.slice A n c] w fun e w' => e = .returned (.bool (decide (8000 < gsk L n))) ∧ w = w' := by
  have d : decide ((200 : Int) < (n : Int)) = false := by simp; omega
  have HN := Lib.hid hn
  have HX := Lib.hid hx
  have HG := Lib.hid (gsk_le L)
  clear hn hx
  go_enter Tryd.func16, Tryd.ntmps16
  go_wp2
  go_loop [3, 11] (fun t i => ∃ k : Nat, k ≤ n ∧ i = .int .i64 k ∧ t = .int .i64 (gsk L k : Int)) (fun _ i => n - (intOf i).toNat)
  case atStart => exact ⟨0, Nat.zero_le _, rfl, by rw [gsk, HN.out]⟩
  case round =>
    obtain ⟨k, hk, rfl, rfl⟩ := hrel
    have hgb : gsk L k ≤ 2000000 := by have := HG.out k; rw [HN.out] at this; omega
    by_cases hlt : k < n
    · obtain ⟨b, off, A', C, rfl, hc, _⟩ := HX.out k (by rw [HN.out]; exact hlt)
      have S := Lib.hid (show gsk L (k + 1) = gsk L k + min (g0 L k).length 9000 from rfl)
      generalize gsk L k = x at hgb S
      generalize (g0 L k).length = m at hc S
      have hmn : min (m : Int) 9000 = ((min m 9000 : Nat) : Int) := by omega
      go_wp2_with fail
      exact ⟨⟨k + 1, by omega, by go_num, by rw [S.out]; simp⟩, by simp [intOf]; omega⟩
    · have E := Lib.hid (show gsk L k = gsk L n by rw [show k = n by omega])
      rw [E.out]
      have D := Lib.hid (show decide ((8000 : Int) < (gsk L n : Int)) = decide (8000 < gsk L n) by congr 1; apply propext; constructor <;> intro h <;> omega)
      clear E
      go_wp2_with fail
      go_ret
      exact ⟨by rw [← D.out]; rfl, rfl⟩
/- rows of numbers of one's own -/
def OwnI (w : World) (B : Nat) (v : Value) (es : List Nat) : Prop := w.ownsRow B 3 1 v es.length (es.map fun (e : Nat) => Value.int .i64 (e : Int))
theorem OwnI.nil (w : World) (B : Nat) : OwnI w B (.slice none 0 0) [] := World.ownsRow_nil w B 3 1
theorem OwnI.below {w w' : World} {B : Nat} {v : Value} {es : List Nat} (h : OwnI w B v es) (hb : Below w.heap.size w w') : OwnI w' B v es := by
  refine ⟨h.1, ?_⟩
  rcases h.2 with h0 | ⟨g, cap, cur, hv, hg, hh, r⟩
  · exact .inl h0
  · refine .inr ⟨g, cap, cur, hv, hg, ?_, r⟩
    rw [hb.block g ?_]
    · exact hh
    · rcases Nat.lt_or_ge g w.heap.size with h1 | h1
      · exact h1
      · rw [Array.getElem?_eq_none h1] at hh; cases hh
theorem OwnI.form {w : World} {B : Nat} {v : Value} {es : List Nat} (h : OwnI w B v es) : ∃ A c, v = .slice A es.length c ∧ ∀ i, i < es.length → ∃ b, A = some ⟨b, 0, none⟩ ∧ w.cell? ⟨b, i, none⟩ = some (.int .i64 ((es.getD i 0 : Nat) : Int)) := by
  rcases h.2 with ⟨rfl, h0⟩ | ⟨g, cap, cur, rfl, _⟩
  · have : es = [] := List.eq_nil_of_length_eq_zero h0
    subst this
    exact ⟨none, 0, rfl, fun i hi => absurd hi (by simp)⟩
  · refine ⟨_, _, rfl, fun i hi => ⟨g, rfl, ?_⟩⟩
    have := World.ownsRow.cells h (g := g) rfl i (.int .i64 ((es.getD i 0 : Nat) : Int)) (by simp [List.getElem?_eq_getElem hi])
    rwa [add_plain, Nat.zero_add] at this
theorem Own.grownI {w w' : World} {B : Nat} {v y : Value} {l : List Int} {es : List Nat} (h : Own w B y l) (hv : OwnI w B v es) (hg : w.grownBy w' v.ownBlock) : Own w' B y l := by
  refine ⟨h.1, ?_⟩
  rcases h.2 with h0 | ⟨g, cap, cur, hy, hgB, hh, r⟩
  · exact .inl h0
  · refine .inr ⟨g, cap, cur, hy, hgB, ?_, r⟩
    have hlt : g < w.heap.size := by
      rcases Nat.lt_or_ge g w.heap.size with h1 | h1
      · exact h1
      · rw [Array.getElem?_eq_none h1] at hh; cases hh
    rw [hg.block g hlt ?_]
    · exact hh
    · intro e
      rcases hv.2 with ⟨hv', _⟩ | ⟨g', cap', cur', hv', _, hh', _⟩
      · rw [hv'] at e; cases e
      · rw [hv'] at e
        have e2 : some g = some g' := e
        injection e2 with e3
        subst e3
        rw [hh] at hh'
        injection hh' with e4
        injection e4 with _ e5 _
        exact absurd e5 (by decide)
theorem infoI : ∃ i, Tryd.prog.info? 3 = some i ∧ i.zero = some (.int .i64 0) ∧ i.size = 1 ∧ i.bytes = 8 :=
  ⟨(Tryd.prog.info? 3).get (by kernel_rfl), by kernel_rfl, by kernel_rfl, by kernel_rfl, by kernel_rfl⟩
theorem wp_appi {ops : Array Oper} {rest : List Oper} {o : Oper} {a : Act} {Q : Exit → Act → World → Prop} (s x : Operand) (w : World) (hgd : o.guard = none)
    (hop : o.op = .call { callee := .builtin .append, args := #[s, x], argTypes := #[42, 42] })
    (B : Nat) (v : Value) (es : List Nat) (hs : a.eval s = v) (ho : OwnI w B v es) (ad : Addr) (hx : a.eval x = .slice (some ad) 1 1) (e : Nat) (hc : w.cell? ad = some (.int .i64 (e : Int)))
    (y : Value) (l : List Int) (hy : Own w B y l) (hlen : es.length ≤ 100000) (hB : B ≤ w.heap.size)
    (h : ∀ v' w', OwnI w' B v' (es ++ [e]) → Own w' B y l → Below B w w' → wpList Tryd.prog ops Q rest (a.put o.dst v') w') : wpList Tryd.prog ops Q (o :: rest) a w := by
  refine wpList_plain hgd fun K hK => ?_
  obtain ⟨i, hi, hz, hsz, hby⟩ := infoI
  obtain ⟨v', w', hrun, r2, r3, _, _⟩ := run_append_own_at (P := Tryd.prog) w B 42 o.type 3 i (.int .i64 0) 1 8 Tryd.underlying42 hi hz hsz hby rfl (by omega) v es.length _ ho ad 1 1 [.int .i64 (e : Int)] rfl
    (fun j u hj => by
      rcases j with _ | j
      · simp at hj; subst hj
        have : ad.add 0 = ad := by obtain ⟨b, off, sp⟩ := ad; cases sp <;> simp [Addr.add]
        rw [this]; exact hc
      · simp at hj)
    (fun u hu => by simp at hu; subst hu; rfl) (by unfold maxLen; omega) (by omega) hB
  unfold Oper.wp
  simp [execOp, hop, resolve, invoke, builtin, hs, hx, hrun, Result.andThen]
  refine hK _ _ (h v' w' (by unfold OwnI; rw [List.length_append, List.map_append]; exact r2) (hy.grownI ho r3) ((Below.refl _ _).grown r3 hB (fun k hk => (World.ownsRow.lt ho k hk).1)))
end Go.Proofs.YteiajbeoglmmmaaDoor
