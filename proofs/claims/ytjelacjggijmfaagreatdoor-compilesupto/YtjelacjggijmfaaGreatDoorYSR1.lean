/- . -/
import Derived.Test.YtjelacjggijmfaaGreatDoorYSB
set_option maxHeartbeats 400000
namespace Go.Proofs.YtjelacjggijmfaaGreatDoor
open Pl Mk Cp Proofs.Tryz
open RowKit
theorem ng (s:az)(a:Nat)(w:ax)(d:a+2<=s.size)(l:s.size<=8388608):
 Calls prog 46 #[.string s,.int .i64 a] w λe b=>e= .returned (.int .i64 (two s.data.toList a))/\w.drew=b :=by
 have c:=aB (Ql s a (by omega));have h:a<s.size:=by omega
 have g:a+1<s.size:=by omega
 have m :(a:Int)+1<s.size:=by omega
 have i:0<=(a:Int)+1:=by omega
 have k:((a:Int)+1).toNat=a+1:=by omega
 have f:=(s[a]).toNat_lt;have j:=(s[a+1]).toNat_lt;go_enter func46,ntmps46;go_wp2
 go_region
 go_wp2
 all_goals go_ret
 all_goals refine⟨sJ ?_,rfl⟩
 all_goals rw[c.u]
 all_goals omega
theorem KY (s:az)(a:Nat)(w:ax)(c:s.size<a+2)(d:a<=8388608):
 Calls prog 46 #[.string s,.int .i64 a] w λe b=>e= .returned (.int .i64 (-1))/\w=b :=by
 go_enter func46,ntmps46;go_wp2
 all_goals go_ret
 all_goals exact⟨rfl,rfl⟩
