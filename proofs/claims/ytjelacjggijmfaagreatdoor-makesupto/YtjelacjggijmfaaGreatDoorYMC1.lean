/- . -/
import Derived.Test.YtjelacjggijmfaaGreatDoorYMK2
import Derived.Test.YtjelacjggijmfaaGreatDoorCards
import Derived.Test.YtjelacjggijmfaaGreatDoorTie
import Derived.ProofKit
import Derived.OpenShut
import Derived.Deep.DeepHandedRow
import Derived.Lib.LaidTab
namespace Go.Proofs.YtjelacjggijmfaaGreatDoor
open Pl Mk Cp Proofs.Tryz
open Go.ChangeShapes Go.WideShapes Go.ChangeAt RowKit Deep
theorem bG:ownKnob Tryz.prog.godebug=none:=by kernel_rfl
theorem Tryz.agc:laidOutB prog=true:=by kernel_rfl
theorem agl (W:ay)(h:W.ShapedOpen prog):dq W:=Go.Proofs.cell_of_shapedOpen_int (zero:= #[.int .i64 0]) (t:=3) h (q9 (by kernel_rfl)) (by kernel_rfl) rfl (by kernel_rfl) (by kernel_rfl) YY
set_option maxRecDepth 100000 in
def aD (h:Array Obj):Array Obj:=
 (h.modify 1 fun
  | .cells _ a frozen=> .cells ((Go.Pinned.utf8FirstZ.map λ(n:Nat)=>Value.int .u8 (n:Int)).toArray) a frozen
  |b=>b).modify 2 fun
  | .cells _ a frozen=> .cells (([128,191,160,191,128,159,144,191,128,143,0,0,0,0,0,0,0,0,0,0,0,0,0,0,0,0,0,0,0,0,0,0].map λ(n:Int)=>Value.int .u8 n).toArray) a frozen
  |b=>b
theorem af8:Tryz.prog.cellsOf 89=3:=by kernel_rfl
theorem af5:Tryz.prog.cellsOf 118=3:=by kernel_rfl
theorem af9:Tryz.prog.cellsOf 9=1:=by kernel_rfl
theorem aga:Tryz.prog.cellsOf 3=1:=by kernel_rfl
theorem agk:Tryz.prog.cellsOf 22=1:=by kernel_rfl
theorem af3 (s:aA):Value.string s=aK s.data.toList:=by cases s;rfl
section
variable {H:Type}
theorem agu (d:DataW H):1<=Rows.uptoBulk d:=by
 cases d with
 |lit x=>cases x<;>simp[Rows.uptoBulk]
 |_=>simp[Rows.uptoBulk]
theorem cU (b:Nat->Nat):∀(c:List (DataW H)) (k:Nat),(∀a d,c[a]?=some d->b (k+a)<=Rows.uptoBulk d)->((List.range' k c.length).map b).sum<=Rows.uptoBulkAll c
 |[],_,_=>by simp[Rows.uptoBulkAll]
 |d::f,k,h=>by have g:=h 0 d rfl;have i:=cU b f (k+1) (λa d e=>by have:=h (a+1) d (by simpa using e);rw[show k+1+a=k+(a+1) by omega];exact this);simp only[Rows.uptoBulkAll,Ya,List.range'_succ,YE,ri];rw[ZH] at g;omega
end
theorem agb {α:Type}(F:α->aJ):∀a:List α,lA (a.map F)=(a.map λb=>(F b).aL.length+(F b).aU.length+1).sum
 |[]=>rfl|x::c=>by rw[YE,lA,YE,ri,agb F c]
variable {a:List az}{b:Nat}
section
variable {H:Type} {enc:TypeId×az->H} {W:ay} {base:Nat} {xr:Nat->Bool} {held:Bool}
theorem af_ {a:Addr}{v:az}(h:W.cell? a=some v):a.spot=none/\a.block<W.heap.size:=by
 refine⟨World.cell?_spot h,?_⟩;unfold World.cell? at h;rcases CI a.block W.heap.size with h' |h'
 ·exact h'
 ·rw[abV h'] at h;cases h
theorem agd {a:Addr}(h:a.spot=none)(b:Nat):a.add b=⟨a.block,a.off+b,none⟩:=by
 unfold Addr.add;split
 ·rename_i c;subst c;cases a;simp_all
 ·rfl
set_option maxRecDepth 20000 in
theorem ago {n:Nat}{y:DataW H×List MemPlace}(h:DataW.trod enc prog W base xr held n 89 a=some y):∃f:aJ,a=[aK f.aL,aK f.aU,.int .i64 f.jK]/\f.aL.length<=maxLen/\f.aL.length+f.aU.length+1<=Rows.uptoBulk y.1:=by
 obtain⟨j,k,A,r,i,c,b⟩:=DataW.trod_struct underlying89 h;rw[af8] at i;have c:j.length=3:=c
 match a,i with
 |[v0,v1,v],_=>
  match j,c with
  |[x,w,B],_=>
   have q:=b 0 _ rfl;have g:=b 1 _ rfl;have o:=b 2 _ rfl;simp[af9,aga] at q g o;obtain⟨d,e,t,s⟩:=DataW.trod_string Yj q;obtain⟨m,p,u,-⟩:=DataW.trod_string Yj g;obtain⟨z,l,-,-⟩:=DataW.trod_int YY o;simp only[ob,rB] at e p l;refine⟨⟨d.data.toList,m.data.toList,z⟩,?_,?_,?_⟩
   ·rw[e,p,l,af3 d,af3 m]
   ·show d.data.toList.length<=maxLen;rw[afV];exact s
   ·rw[r];simp only[YE,Z9,Rows.uptoBulk,Rows.uptoBulkAll,t,u];omega
structure InG (W:ay)(v:az)(fs:List aJ)(bulk:Nat):Prop where
 jP :∃a cap b o,v= .slice a fs.length cap/\(0<fs.length->a=some ⟨b,o,none⟩/\eJ W b o fs/\b<W.heap.size)
 aL:∀f∈fs,f.aL.length<=maxLen
 sum:lA fs+1<=bulk
theorem af7 {v:az}{x:DataW H×List MemPlace}(h:DataW.trod enc prog W base xr held b 22 [v]=some x):∃G,InG W v G (Rows.uptoBulk x.1):=by
 rcases open_slice A2 h with⟨g,rfl⟩|⟨a,len,cap,m,n,D,Pc,r,L,Q,P,y,rfl,J⟩
 ·simp only[ob,rB] at g;exact⟨[],⟨none,0,0,0,g,λh=>by simp at h⟩,by simp,by simp[Rows.uptoBulk,lA]⟩
 ·simp only[ob,rB] at r;have O:len<=m:=by rw[y];split<;>omega
  have C:∀c,c<len->∃f:aJ,(W.cell? (a.add (c*3))=some (aK f.aL)/\W.cell? ((a.add (c*3)).add 1)=some (aK f.aU)/\W.cell? ((a.add (c*3)).add 2)=some (.int .i64 f.jK))/\f.aL.length<=maxLen/\f.aL.length+f.aU.length+1<=Rows.uptoBulk (D c):=λc e=>by obtain⟨N,k,u⟩:=J c (by omega);rw[af8] at k;obtain⟨_,-,p⟩:=World.cells?_some k;obtain⟨f,rfl,B,z⟩:=ago u;have o:=p 0 (by omega);have i:=p 1 (by omega);have j:=p 2 (by omega);exact⟨f,⟨by simpa [Addr.add] using o,i,j⟩,B,z⟩
  have M:Inhabited aJ:=⟨⟨[],[],0⟩⟩;obtain⟨F,l⟩:=choose_lt C;have q:((List.range len).map F).length=len:=by simp
  refine⟨(List.range len).map F,⟨some a,cap,a.block,a.off,by rw[q,r],λg=> ?_⟩,λf E=> ?_,?_⟩
  ·rw[q] at g;obtain⟨I,t⟩:=af_ (l 0 g).1.1;have w :a.spot=none:=by simpa [Addr.add] using I
   have K :a.block<W.heap.size:=by simpa [Addr.add] using t
   refine⟨by cases a;simp_all,λc e=> ?_,K⟩;have A :c<len:=by omega
   obtain⟨⟨o,i,j⟩,-,-⟩:=l c A;rw[add_add] at i j;rw[agd w] at o i j;simp only[YT,G'];exact⟨o,by rw[ml];exact i,by rw[ml];exact j⟩
  ·obtain⟨c,e,rfl⟩:=YC.1 E;exact(l c (ZX.1 e)).2.1
  ·have k:=cU (λc=>(F c).aL.length+(F c).aU.length+1) ((List.range len).map D) 0 (λc d s=>by
    obtain⟨e,rfl⟩:=Yl.1 s;simp only[Yk,List.length_range] at e;simp only[YT,G',YO];exact(l c e).2.2)
   rw[Yk,List.length_range,<-List.range_eq_range'] at k;rw[agb];simp only[Rows.uptoBulk];omega
structure InE (W:ay)(v:az)(ef:List bu)(bulk:Nat):Prop where
 jP :∃a cap b o,v= .slice a ef.length cap/\(0<ef.length->a=some ⟨b,o,none⟩/\kX W W.heap.size b o ef)
 aL:∀e∈ef,∀f∈e.cE,f.aL.length<=maxLen
 len:ef.length+(ef.flatMap (·.cE)).length+1<=bulk
set_option maxRecDepth 20000 in
theorem ags {n:Nat}{y:DataW H×List MemPlace}(h:DataW.trod enc prog W base xr held n 118 a=some y):∃(e:bu) (vw:az) (d:Nat),a=[aK e.dg,vw,.int .i64 e.exit]/\InG W vw e.cE d/\d+1<=Rows.uptoBulk y.1:=by
 obtain⟨j,k,w,q,i,c,b⟩:=DataW.trod_struct underlying118 h;rw[af5] at i;have c:j.length=3:=c
 match a,i with
 |[v0,v1,t],_=>
  match j,c with
  |[v,u,x],_=>
   have o:=b 0 _ rfl;have f:=b 1 _ rfl;have m:=b 2 _ rfl;simp[af9,aga,agk] at o f m;obtain⟨p,g,-,-⟩:=DataW.trod_string Yj o;obtain⟨r,s⟩:=af7 f;obtain⟨z,l,-,-⟩:=DataW.trod_int YY m;simp only[ob,rB] at g l;refine⟨⟨p.data.toList,r,z⟩,v1,_,?_,s,?_⟩
   ·rw[g,l,af3 p]
   ·rw[q];simp only[YE,Z9,Rows.uptoBulk,Rows.uptoBulkAll];omega
theorem agq (a:List bu):(a.flatMap (·.cE)).length=(a.map (·.cE.length)).sum:=by
 induction a with
 |nil=>rfl|cons e c b=>rw[YA,X4,b,YE,ri]
theorem agr {a:List bu}{e:bu}(h:e∈a):e.cE.length<=(a.flatMap (·.cE)).length:=by
 induction a with
 |nil=>cases h
 |cons d c b=>
  rw[YA,X4];rcases YD.1 h with rfl|h
  ·omega
  ·have:=b h;omega
theorem af6:∀(a:List Nat),(a.map (·+1)).sum=a.sum+a.length
 |[]=>rfl|x::b=>by simp only[YE,ri,Ya,af6 b];omega
theorem agp {v:az}{x:DataW H×List MemPlace}(h:DataW.trod enc prog W base xr held b 23 [v]=some x):∃C,InE W v C (Rows.uptoBulk x.1):=by
 rcases open_slice underlying23 h with⟨l,rfl⟩|⟨a,len,cap,m,n,D,Pc,A,Y,ae,hm,I,rfl,T⟩
 ·simp only[ob,rB] at l;exact⟨[],⟨none,0,0,0,l,λh=>by simp at h⟩,by simp,by simp[Rows.uptoBulk]⟩
 ·simp only[ob,rB] at A;have ad:len<=m:=by rw[I];split<;>omega
  have O:∀c,c<len->∃e:bu,(∃vw g,(W.cell? (a.add (c*3))=some (aK e.dg)/\W.cell? ((a.add (c*3)).add 1)=some vw/\W.cell? ((a.add (c*3)).add 2)=some (.int .i64 e.exit))/\InG W vw e.cE g)/\e.cE.length+1<=Rows.uptoBulk (D c):=λc k=>by obtain⟨ac,f,p⟩:=T c (by omega);rw[af5] at f;obtain⟨_,-,t⟩:=World.cells?_some f;obtain⟨e,vw,g,rfl,y,w⟩:=ags p;have i:=t 0 (by omega);have j:=t 1 (by omega);have o:=t 2 (by omega);have hl:=y.sum;have ab:=BC e.cE;have w:g+1<=Rows.uptoBulk (D c):=w;exact⟨e,⟨vw,g,⟨by simpa [Addr.add] using i,j,o⟩,y⟩,by omega⟩
  have Z:Inhabited bu:=⟨⟨[],[],0⟩⟩;obtain⟨F,q⟩:=choose_lt O;have r:((List.range len).map F).length=len:=by simp
  refine⟨(List.range len).map F,⟨some a,cap,a.block,a.off,by rw[r,A],λl=> ?_⟩,λe U=> ?_,?_⟩
  ·rw[r] at l;obtain⟨vw,g,⟨i,-,-⟩,-⟩:=(q 0 l).1;obtain⟨R,E⟩:=af_ i;have G :a.spot=none:=by simpa [Addr.add] using R
   have V :a.block<W.heap.size:=by simpa [Addr.add] using E
   refine⟨by cases a;simp_all,V,λc k=> ?_⟩;have J :c<len:=by omega
   obtain⟨⟨vw,g,⟨i,j,o⟩,s⟩,-⟩:=q c J;rw[add_add] at j o;rw[agd G] at i j o;simp only[YT,G'];obtain⟨u,z,N,S,rfl,P⟩:=s.jP;refine⟨i,by rw[ml];exact o,?_⟩;by_cases f:0<(F c).cE.length
   ·obtain⟨L,X,M⟩:=P f;exact⟨u,z,N,S,by rw[ml];exact j,λ_=>L,X,M⟩
   ·exact⟨u,z,0,0,by rw[ml];exact j,λh=>absurd h f,λaa hj=>by omega,by omega⟩
  ·obtain⟨c,k,rfl⟩:=YC.1 U;obtain⟨⟨vw,g,-,s⟩,-⟩:=q c (ZX.1 k);exact s.aL
  ·have f:=cU (λc=>(F c).cE.length+1) ((List.range len).map D) 0 (λc d B=>by
    obtain⟨k,rfl⟩:=Yl.1 B;simp only[Yk,List.length_range] at k;simp only[YT,G',YO];exact(q c k).2)
   rw[Yk,List.length_range] at f;rw[agq,k6,r];have p:=af6 ((List.range len).map λc=>(F c).cE.length);rw[k6,Yk,List.length_range] at p;rw[<-List.range_eq_range'] at f;simp only[Rows.uptoBulk];have Q:((List.range len).map ((λx=>x+1)∘λc=>(F c).cE.length)).sum=((List.range len).map λc=>(F c).cE.length+1).sum:=rfl;have K:((List.range len).map ((λx=>x.cE.length)∘F)).sum=((List.range len).map λc=>(F c).cE.length).sum:=rfl;rw[K];rw[Q] at p;omega
end
