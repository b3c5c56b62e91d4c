/- . -/
import Derived.Test.YtjelacjggijmfaaGreatDoorYSB
set_option maxHeartbeats 400000
namespace Go.Proofs.YtjelacjggijmfaaGreatDoor
open Pl Mk Cp Proofs.Tryz
open RowKit
def oQ (op:Nat):Nat:=if op=1\/op=4\/op=8 then 1 else if op=2\/op=6\/op=7\/op=3 then 2 else 0
def oR (op:Nat):Nat:=if op=3 then 2 else 0
def AT (op:Nat):Bool:=decide (1<=op/\op<=8)
theorem LA (op:Nat)(m:op<256)(w:ax):
 Calls prog 149 #[.int .u8 op] w λe f=>e= .returned (.tuple #[.int .i64 (oQ op),.int .i64 (oR op),.bool (AT op)])/\w=f :=by
 by_cases a:op=0\/9<=op
 ·have n:((op:Int)==1)=false:=by rw[TQ];omega
  have h:((op:Int)==2)=false:=by rw[TQ];omega
  have i:((op:Int)==3)=false:=by rw[TQ];omega
  have j:((op:Int)==4)=false:=by rw[TQ];omega
  have k:((op:Int)==5)=false:=by rw[TQ];omega
  have o:((op:Int)==6)=false:=by rw[TQ];omega
  have p:((op:Int)==7)=false:=by rw[TQ];omega
  have l:((op:Int)==8)=false:=by rw[TQ];omega
  have b:=aB a;clear a;go_enter func149,ntmps149;go_wp2
  all_goals go_ret3
  have a:=b.u;have d:oQ op=0:=by unfold oQ;rw[TJ (by omega),TJ (by omega)]
  have g:oR op=0:=by unfold oR;rw[TJ (by omega)]
  have c:AT op=false:=by unfold AT;simp only[VC];omega
  rw[d,g,c];exact⟨rfl,rfl⟩
 ·have:op=1\/op=2\/op=3\/op=4\/op=5\/op=6\/op=7\/op=8:=by omega
  rcases this with rfl|rfl|rfl|rfl|rfl|rfl|rfl|rfl;all_goals go_enter func149,ntmps149
  all_goals go_wp2
  all_goals go_ret3
  all_goals exact⟨rfl,rfl⟩
