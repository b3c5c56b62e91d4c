/- . -/
import Derived.Test.YtjelacjggijmfaaGreatDoorYSPure
import Derived.Test.YtjelacjggijmfaaGreatDoorYRf
import Derived.Test.YtjelacjggijmfaaGreatDoorChecked
import Derived.WalkSpells
import Derived.WalkLawsBesides
import Derived.Lib.Strings
set_option maxHeartbeats 400000
namespace Go.Proofs.YtjelacjggijmfaaGreatDoor
open Pl Mk Cp Proofs.Tryz
open RowKit
variable {a:Prop}
theorem aB (h:a):Hid a:=h
theorem uh (h:Hid a):a:=h
theorem ko {a b:Bool}(h:a=b):Ending.returned (.bool a)= .returned (.bool b):=by rw[h]
theorem sJ {k:IntKind}{a b:Int}(h:a=b):Ending.returned (.int k a)= .returned (.int k b):=by rw[h]
theorem pa {a b:az}(h:a=b):Ending.returned (.string a)= .returned (.string b):=by rw[h]
theorem eh (a:List UInt8):(⟨a.toArray⟩:az).size=a.length:=by show a.toArray.size=_;simp
theorem ie {t:az}{a:List UInt8}(h:t.data.toList=a):t=⟨a.toArray⟩:=by subst h;cases t;simp
theorem sI (a:List UInt8):(⟨a.toArray⟩:az).data.toList=a:=by simp
theorem oj (s:az)(a:Nat)(h:a<s.size):Pl.opAt s.data.toList a=(s[a]).toNat:=by unfold Pl.opAt;rw[TO,TH (by rw[<-Uf];exact h)];rfl
theorem Ql (s:az)(a:Nat)(h:a+1<s.size):two s.data.toList a=256*(s[a]).toNat+(s[a+1]).toNat:=by have c:=oj s a (by omega);have b:=oj s (a+1) h;unfold Pl.opAt at c b;unfold two;rw[c,b]
theorem oa (c:Nat)(d:c<256)(w:ax):
 Calls prog 44 #[.int .i64 c] w λe a=>e= .returned (.int .i64 (ee c))/\Below w.heap.size w a :=by
 by_cases b:9<=c
 ·go_enter func44,ntmps44;go_wp2
  go_ret;refine⟨sJ ?_,aj w _⟩;have:ee c=0:=by unfold ee;repeat rw[TJ (by omega)]
  rw[this];rfl
 ·have:c=0\/c=1\/c=2\/c=3\/c=4\/c=5\/c=6\/c=7\/c=8:=by omega
  rcases this with rfl|rfl|rfl|rfl|rfl|rfl|rfl|rfl|rfl;all_goals go_enter func44,ntmps44
  all_goals go_wp2
  all_goals go_ret
  all_goals exact⟨rfl,aj w _⟩
