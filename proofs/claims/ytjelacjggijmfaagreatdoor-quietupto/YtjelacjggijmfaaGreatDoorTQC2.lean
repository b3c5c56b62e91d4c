/-
  Quiet of package makerkeep: what is made is made, the same goal once more gives no command and changes nothing; the whole web then gives just what is stale still, and then no more. Proved of all arguments whose values and letters together, with what the listed tables hold, come to at most 1048576.
-/
import Derived.Test.YtjelacjggijmfaaGreatDoorTZR
import Derived.Test.YtjelacjggijmfaaGreatDoorTQB1
import Derived.Deep.DeepHandedRow
import Derived.Lib.LaidTab
namespace Go.Proofs.YtjelacjggijmfaaGreatDoor
open Go.ChangeShapes Go.WideShapes Go.ChangeAt Go.RowKit
open Go.ChangeMaps (open_string shut_string)
set_option maxRecDepth 100000 in
theorem quiet_contract (H:Type) (enc:TypeId×Value→H) (W:World) (base:Nat) (args:Array Value) (ds gs:List (DataW H)) (before:List MemPlace)
 (hval:∀(j:Nat) t v,Tryz.f9.params[j]?=some t→args[j]?=some v→Value.okWide Tryz.prog W .any base t v)
 (hW:DataW.Whole enc Tryz.prog Tryz.f9.params.toList Rows.quietSpec.vars false W args.toList ds gs before)
 (hk:Rows.uptoSmall H (ds++gs)=true) (hsh:W.ShapedOpen Tryz.prog):
 Calls Tryz.prog 9 args W fun e W' =>∃v,e= .returned v∧Rows.quietSpec.post enc Tryz.prog Tryz.f9 false true false false W args v W' :=by
 have hW' :=hW;obtain⟨p,q,hA0,hV,rfl,hfz,hnd⟩:=hW;have hA:DataW.TrodAll enc Tryz.prog W 0 (fun _=>true) true Tryz.f9.params.toList args.toList ds p:=hA0;rw[Tryz.params9] at hA hval;obtain⟨v0,vs,d0,ds0,pw,qw,hargs,rfl,rfl,h0,r⟩:=trodAll_cons hA;obtain⟨w0,us0,e0,es0,p0,q0,rfl,rfl,rfl,g0,r0⟩:=trodAll_cons r;obtain⟨rfl,rfl,rfl⟩:=trodAll_nil r0
 obtain rfl:args= #[v0,w0]:=by cases args;simp_all
 obtain⟨rfl,rfl⟩:=trodVars_none hV;obtain⟨wc,rfl,-⟩:=okWide_struct Tryz.underlying76 (hval 0 76 v0 rfl rfl);obtain⟨z0,rfl,rfl,rfl,hz0⟩:=open_int Tryz.underlying3 (hval 1 3 w0 rfl rfl) g0;clear hA0;have hlt:∀x,x∈pw→x.block<W.heap.size:=fun x hx=>hW'.lt x (by simpa using hx)
 obtain⟨fu,gw⟩:=h0;simp only[List.append_nil] at hW';have hb:=of_decide_eq_true hk;simp only[List.append_nil,Rows.uptoBulkAll,Rows.uptoBulk] at hb;obtain⟨N,T,x0,x1,hc,hwb⟩:=open_web gw (by simp only;omega);have hc:wc.toList=[x0,x1]:=hc;obtain rfl:wc= #[x0,x1]:=by cases wc;simpa using hc
 have walk:=web_quiet hwb z0 (i64_of_wf hz0) (glob_shaped W hsh);refine walk.mono fun e W' ⟨he,hn⟩=> ?_
 subst he;exact⟨_,rfl,_,_,_,_,_,_,hW',trodAll_cons_mk (shut_bool Tryz.underlying4 _) trodAll_mk0,trodAll_cons_mk (Below.trod Tryz.laidOut (by kernel_rfl) (of_decide_eq_true (by kernel_rfl)) ⟨fu,gw⟩ hn hlt) (trodAll_cons_mk (shut_int Tryz.underlying3 hz0) trodAll_mk0),rfl,hn.frame _,fun h=>by cases h⟩
end Go.Proofs.YtjelacjggijmfaaGreatDoor
