/- One operation of both disks, whatever it is. -/
import Derived.Test.YtahjodpaikhhmaaDkD5
import Derived.Test.YtahjodpaikhhmaaDkD6
namespace Go.Proofs.Ytahjodpaikhhmaa
open Go Go.RowKit
set_option maxRecDepth 20000

theorem do_any {B : Nat} {w : World} {d m : Nat} {V : ByteArray → Value} {S : St} {A : Option Addr} {n c : Nat} {L : List RF} (h : Pl B w d m V S S A n L) (o : OP) (ho : Oko w o) (hsm : Small o)
    (lb : List Int) (hlb : lb.length = o.bn) (hIb : ∀ W, Below B w W → Byt W o.ba lb) (lk : List Int) (hlk : lk.length = o.kn) (hIk : ∀ W, Below B w W → Ints W o.ka lk) :
    Calls Try.prog 8 #[ptr d, rvS S A n c, .agg (opc o)] w (Did B w d m (At d m V S.fs A L)) := by
  have hs : o.nm.size ≤ maxLen := Nat.le_trans ho.nm (by unfold maxLen; omega)
  have hb8 : o.bn ≤ 8000 := hsm.1
  have hk3 : o.kn ≤ 300 := hsm.2
  by_cases q0 : o.q = 0
  · exact do_app0 h o q0 (appS S o.nm lb) (app_room S _ _) (appE S o.nm lb) lb hlb hIb ho.bz (by omega) (fun W A' c' hd hy hz hkc hfar => append_any hd o.nm hs A' o.bn c' lb hlb hy hz hfar hkc (by omega)) (fun W hr hy => rappendS hr h.db.dk.ok h.room o.nm hs o.ba o.bn o.bc lb hlb hy ho.bz ho.bcap (by omega))
  by_cases q1 : o.q = 1
  · exact do_sync h o ho q1
  by_cases q2 : o.q = 2
  · exact do_ren h o ho q2
  by_cases q3 : o.q = 3
  · exact do_tru h o ho q3
  by_cases q4 : o.q = 4
  · exact do_del h o ho q4
  by_cases q5 : o.q = 5
  · exact do_fuse h o ho q5
  by_cases q6 : o.q = 6
  · exact do_fall h o ho q6
  by_cases q7 : o.q = 7
  · exact do_wake0 h o q7 (woke S lk) (woke_room S _) lk hlk hIk ho.kz (by omega) (fun W A' c' hd hi hfar => wake_any hd A' o.kn c' lk hlk hi hfar (by omega)) (fun W hr hi => rwakeS hr h.db.dk.ok o.ka o.kn o.kc lk hlk hi (by omega))
  have hq : ∀ j : Int, 0 ≤ j → j ≤ 7 → o.q ≠ j := fun j h0 h1 e => by omega
  cases hu : S.up with
  | false => exact do_rdown h o hq hs hu
  | true =>
    cases hf : fnd S.fs o.nm with
    | none => exact do_rnone h o hq hs hu hf
    | some f => exact do_rsome h o hq hs hu f hf
end Go.Proofs.Ytahjodpaikhhmaa
