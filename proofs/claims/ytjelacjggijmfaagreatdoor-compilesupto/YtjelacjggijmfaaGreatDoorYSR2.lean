/- . -/
import Derived.Test.YtjelacjggijmfaaGreatDoorYSR1
import Derived.Test.YtjelacjggijmfaaGreatDoorYSP2
set_option maxHeartbeats 1000000
namespace Go.Proofs.YtjelacjggijmfaaGreatDoor
open Pl Mk Cp Proofs.Tryz
open RowKit
theorem Kf (s:az)(b m cap:Nat)(a:Option Addr)(c:Nat)(w:ax)(J:c<s.size)(y:s.size<=8388608)(j:Pl.cd s.data.toList c)(C:aG w b 97 [.slice a m cap,.string s]):
 Calls prog 103 #[.pointer (some ⟨b,0,none⟩),.int .i64 c] w λe K=>(∃f:Bool,e= .returned (.bool f)/\(f=true↔iD m (a_ s.data.toList c)))/\Below w.heap.size w K :=by
 have E:=C.cell 0 (by simp);have H:=C.cell 1 (by simp);simp only[TG,TI] at E H;have x:=oj s c J;have p:=uN s.data.toList c;have n:=j.2;rw[<-Uf] at n;have k:=j.1;generalize d:Pl.opAt s.data.toList c=op at*;have M:op=1\/(op=2\/op=7)\/op=3\/(op=4\/op=5\/op=6\/op=8):=by have N:¬(op=0\/9<=op):=λh=>k (by unfold ee;repeat rw[TJ (by omega)]);omega
 have P:=aB x;have O:(s[c].toNat:Int)=op:=by rw[<-x]
 clear x;rcases M with rfl|h27|rfl|h4
 ·have z:c+1<s.size:=by have:ee 1=2:=rfl;omega
  have g:Hid ((decide ((s[c+1].toNat:Int)<=1))=true↔iD m (a_ s.data.toList c)):=by
   show _↔_;have:(a_ s.data.toList c).first=(s[c+1]).toNat:=by rw[<-oj s (c+1) z];unfold a_;rw[d];rfl
   have e:(a_ s.data.toList c).op=1:=d;unfold iD;rw[this,e];simp;omega
  clear j n k d p;go_enter Zn,Y1;go_wp2_with fail
  all_goals go_ret
  all_goals exact⟨⟨_,rfl,g.u⟩,TF _ _⟩
 ·have v:c+3<=s.size:=by
   have:ee op=3:=by rcases h27 with rfl|rfl<;>rfl
   omega
  obtain⟨q,l⟩:∃q,q=c+1:=⟨_,rfl⟩;have o:=aB (λw=>ng s q w (by omega) y);have i:IntKind.i64.wrap ((c:Int)+1)=(q:Int):=by simp[IntKind.wrap,IntKind.signed,IntKind.bits];omega
  have g:Hid ((decide (two s.data.toList q<m))=true↔iD m (a_ s.data.toList c)):=by
   show _↔_;have:(a_ s.data.toList c).first=two s.data.toList q:=by unfold a_;rw[d,l];rcases h27 with rfl|rfl<;>rfl
   have e:(a_ s.data.toList c).op=op:=d;unfold iD;rw[this,e];rcases h27 with rfl|rfl<;>simp
  generalize two s.data.toList q=F at*;have t:=aB i;clear j n k d p i l;rcases h27 with rfl|rfl;all_goals go_enter Zn,Y1
  all_goals go_wp2_with fail
  all_goals have i:=t.u
  all_goals go_quiet (first|(go_at_call_of 46 (q:Int);exact Yk ((o.u _).mono (λ_ _ h=>⟨h.1,1,h.2.symm⟩))))
  all_goals go_wp2_with fail
  all_goals go_ret
  all_goals exact⟨⟨_,rfl,g.u⟩,Below.drewN (TF _ _) _⟩
 ·have v:c+5<=s.size:=by have:ee 3=5:=rfl;omega
  obtain⟨q,l⟩:∃q,q=c+1:=⟨_,rfl⟩;obtain⟨f,B⟩:∃f,f=c+3:=⟨_,rfl⟩;have o:=aB (λw=>ng s q w (by omega) y);have L:=aB (λw=>ng s f w (by omega) y);have i:IntKind.i64.wrap ((c:Int)+1)=(q:Int):=by simp[IntKind.wrap,IntKind.signed,IntKind.bits];omega
  have r:IntKind.i64.wrap ((c:Int)+3)=(f:Int):=by simp[IntKind.wrap,IntKind.signed,IntKind.bits];omega
  have g:Hid ((two s.data.toList q<m/\two s.data.toList f<m)↔iD m (a_ s.data.toList c)):=by
   show _↔_;have z:(a_ s.data.toList c).first=two s.data.toList q:=by unfold a_;rw[d,l];rfl
   have v:(a_ s.data.toList c).s7=two s.data.toList f:=by unfold a_;rw[d,B];rfl
   have e:(a_ s.data.toList c).op=3:=d;unfold iD;rw[z,v,e];simp
  generalize two s.data.toList q=F at*;generalize two s.data.toList f=G at*;have t:=aB i;have A:=aB r;clear j n k d p i r l B;by_cases D:F<m
  ·have I:decide ((F:Int)<m)=true:=by rw[U6];omega
   go_enter Zn,Y1;go_wp2_with fail
   have i:=t.u;have r:=A.u;go_quiet (first|(go_at_call_of 46 (q:Int);exact Yk ((o.u _).mono (λ_ _ h=>⟨h.1,1,h.2.symm⟩)))|(go_at_call_of 46 (f:Int);exact Yk ((L.u _).mono (λ_ _ h=>⟨h.1,1,h.2.symm⟩))))
   all_goals go_wp2_with fail
   all_goals go_ret
   all_goals refine⟨⟨_,rfl,?_⟩,Below.drewN (TF _ _) _⟩
   all_goals(rw [<-g.u];simp[D])
  ·have I:decide ((F:Int)<m)=false:=by rw[VC];omega
   go_enter Zn,Y1;go_wp2_with fail
   have i:=t.u;have r:=A.u;go_quiet (first|(go_at_call_of 46 (q:Int);exact Yk ((o.u _).mono (λ_ _ h=>⟨h.1,1,h.2.symm⟩))))
   all_goals go_wp2_with fail
   all_goals go_ret
   all_goals refine⟨⟨_,rfl,?_⟩,Below.drewN (TF _ _) _⟩
   all_goals(rw [<-g.u];simp[D])
 ·have g:Hid (iD m (a_ s.data.toList c)):=by
   show iD _ _;have e:(a_ s.data.toList c).op=op:=d;unfold iD;rw[e];refine⟨λh=> ?_,λh=> ?_,λh=> ?_⟩<;>omega
  clear j n k d p;rcases h4 with rfl|rfl|rfl|rfl;all_goals go_enter Zn,Y1
  all_goals go_wp2_with fail
  all_goals go_ret
  all_goals exact⟨⟨_,rfl,λ_=>g.u,λ_=>rfl⟩,TF _ _⟩
