/- . -/
import Derived.Test.YtjelacjggijmfaaGreatDoorYEGB
import Derived.Test.YtjelacjggijmfaaGreatDoorCards
import Derived.Test.YtjelacjggijmfaaGreatDoorTie
import Derived.ProofKit
import Derived.OpenShut
import Derived.Deep.DeepHandedRow
import Derived.Lib.LaidTab
namespace Go.Proofs.YtjelacjggijmfaaGreatDoor
open Pl Mk Cp Proofs.Tryz
open Go.ChangeShapes Go.WideShapes Go.ChangeAt RowKit Deep
theorem bI:ownKnob Tryz.prog.godebug=none:=by kernel_rfl
theorem Tryz.abj:laidOutB prog=true:=by kernel_rfl
theorem abC (W:ax)(h:W.ShapedOpen prog):c_ W:=Go.Proofs.cell_of_shapedOpen_int (zero:= #[.int .i64 0]) (t:=3) h (Xe (by kernel_rfl)) (by kernel_rfl) rfl (by kernel_rfl) (by kernel_rfl) UJ
set_option maxRecDepth 100000 in
def cd (h:Array Obj):Array Obj:=
 (h.modify 1 fun
  | .cells _ a frozen=> .cells ((Go.Pinned.utf8FirstZ.map λ(n:Nat)=>Value.int .u8 (n:Int)).toArray) a frozen
  |b=>b).modify 2 fun
  | .cells _ a frozen=> .cells (([128,191,160,191,128,159,144,191,128,143,0,0,0,0,0,0,0,0,0,0,0,0,0,0,0,0,0,0,0,0,0,0].map λ(n:Int)=>Value.int .u8 n).toArray) a frozen
  |b=>b
theorem abn:Tryz.prog.cellsOf 89=3:=by kernel_rfl
theorem abl:Tryz.prog.cellsOf 118=3:=by kernel_rfl
theorem abo:Tryz.prog.cellsOf 9=1:=by kernel_rfl
theorem abq:Tryz.prog.cellsOf 3=1:=by kernel_rfl
theorem abB:Tryz.prog.cellsOf 22=1:=by kernel_rfl
theorem abi (s:az):Value.string s=aK s.data.toList:=by cases s;rfl
section
variable {H:Type}
theorem abJ (d:DataW H):1<=Rows.uptoBulk d:=by
 cases d with
 |lit x=>cases x<;>simp[Rows.uptoBulk]
 |_=>simp[Rows.uptoBulk]
theorem abh (b:Nat->Nat):∀(c:List (DataW H)) (k:Nat),(∀a d,c[a]?=some d->b (k+a)<=Rows.uptoBulk d)->((List.range' k c.length).map b).sum<=Rows.uptoBulkAll c
 |[],_,_=>by simp[Rows.uptoBulkAll]
 |d::f,k,h=>by have g:=h 0 d rfl;have i:=abh b f (k+1) (λa d e=>by have:=h (a+1) d (by simpa using e);rw[show k+1+a=k+(a+1) by omega];exact this);simp only[Rows.uptoBulkAll,TK,List.range'_succ,Ug,XG];rw[Ve] at g;omega
end
theorem abr {α:Type}(F:α->aI):∀a:List α,ke (a.map F)=(a.map λb=>(F b).aJ.length+(F b).aT.length+1).sum
 |[]=>rfl|x::c=>by rw[Ug,ke,Ug,XG,abr F c]
variable {a:List ay}{b:Nat}
section
variable {H:Type} {enc:TypeId×ay->H} {W:ax} {base:Nat} {spare:Nat->Bool} {held:Bool}
theorem abp {a:Addr}{v:ay}(h:W.cell? a=some v):a.spot=none/\a.block<W.heap.size:=by
 refine⟨World.cell?_spot h,?_⟩;unfold World.cell? at h;rcases Yj a.block W.heap.size with h' |h'
 ·exact h'
 ·rw[Yn h'] at h;cases h
theorem abt {a:Addr}(h:a.spot=none)(b:Nat):a.add b=⟨a.block,a.off+b,none⟩:=by
 unfold Addr.add;split
 ·rename_i c;subst c;cases a;simp_all
 ·rfl
set_option maxRecDepth 20000 in
theorem abD {n:Nat}{y:DataW H×List MemPlace}(h:DataW.trod enc prog W base spare held n 89 a=some y):∃f:aI,a=[aK f.aJ,aK f.aT,.int .i64 f.jc]/\f.aJ.length+f.aT.length+1<=Rows.uptoBulk y.1:=by
 obtain⟨i,k,x,r,g,c,b⟩:=DataW.trod_struct underlying89 h;rw[abn] at g;have c:i.length=3:=c
 match a,g with
 |[v0,v1,u],_=>
  match i,c with
  |[w,v,A],_=>
   have p:=b 0 _ rfl;have e:=b 1 _ rfl;have m:=b 2 _ rfl;simp[abo,abq] at p e m;obtain⟨q,d,s,-⟩:=DataW.trod_string T0 p;obtain⟨l,o,t,-⟩:=DataW.trod_string T0 e;obtain⟨z,j,-,-⟩:=DataW.trod_int UJ m;simp only[List.cons.injEq,and_true] at d o j;refine⟨⟨q.data.toList,l.data.toList,z⟩,?_,?_⟩
   ·rw[d,o,j,abi q,abi l]
   ·rw[r];simp only[Ug,VL,Rows.uptoBulk,Rows.uptoBulkAll,s,t];omega
structure InG (W:ax)(v:ay)(fs:List aI)(bulk:Nat):Prop where
 nQ :∃a cap b o,v= .slice a fs.length cap/\(0<fs.length->a=some ⟨b,o,none⟩/\dA W b o fs/\b<W.heap.size)
 sum:ke fs+1<=bulk
theorem aE {v:ay}{x:DataW H×List MemPlace}(h:DataW.trod enc prog W base spare held b 22 [v]=some x):∃C,InG W v C (Rows.uptoBulk x.1):=by
 rcases open_slice WO h with⟨e,rfl⟩|⟨a,len,cap,m,n,D,Pc,r,J,O,N,y,rfl,G⟩
 ·simp only[List.cons.injEq,and_true] at e;exact⟨[],⟨none,0,0,0,e,λh=>by simp at h⟩,by simp[Rows.uptoBulk,ke]⟩
 ·simp only[List.cons.injEq,and_true] at r;have M:len<=m:=by rw[y];split<;>omega
  have B:∀c,c<len->∃f:aI,(W.cell? (a.add (c*3))=some (aK f.aJ)/\W.cell? ((a.add (c*3)).add 1)=some (aK f.aT)/\W.cell? ((a.add (c*3)).add 2)=some (.int .i64 f.jc))/\f.aJ.length+f.aT.length+1<=Rows.uptoBulk (D c):=λc k=>by obtain⟨L,j,u⟩:=G c (by omega);rw[abn] at j;obtain⟨_,-,p⟩:=World.cells?_some j;obtain⟨f,rfl,z⟩:=abD u;have l:=p 0 (by omega);have g:=p 1 (by omega);have i:=p 2 (by omega);exact⟨f,⟨by simpa [Addr.add] using l,g,i⟩,z⟩
  have K:Inhabited aI:=⟨⟨[],[],0⟩⟩;obtain⟨F,o⟩:=choose_lt B;have q:((List.range len).map F).length=len:=by simp
  refine⟨(List.range len).map F,⟨some a,cap,a.block,a.off,by rw[q,r],λe=> ?_⟩,?_⟩
  ·rw[q] at e;obtain⟨E,t⟩:=abp (o 0 e).1.1;have w :a.spot=none:=by simpa [Addr.add] using E
   have I :a.block<W.heap.size:=by simpa [Addr.add] using t
   refine⟨by cases a;simp_all,λc k=> ?_,I⟩;have A :c<len:=by omega
   obtain⟨⟨l,g,i⟩,-⟩:=o c A;rw[add_add] at g i;rw[abt w] at l g i;simp only[Ut,X6];exact⟨l,by rw[Xj];exact g,by rw[Xj];exact i⟩
  ·have j:=abh (λc=>(F c).aJ.length+(F c).aT.length+1) ((List.range len).map D) 0 (λc d s=>by
    obtain⟨k,rfl⟩:=TZ.1 s;simp only[TR,List.length_range] at k;simp only[Ut,X6,Ur];exact(o c k).2)
   rw[TR,List.length_range,<-List.range_eq_range'] at j;rw[abr];simp only[Rows.uptoBulk];omega
structure InE (W:ax)(v:ay)(ef:List bL)(bulk:Nat):Prop where
 nQ :∃a cap b o,v= .slice a ef.length cap/\(0<ef.length->a=some ⟨b,o,none⟩/\nP W W.heap.size b o ef)
 len:ef.length+(ef.flatMap (·.eO)).length+1<=bulk
set_option maxRecDepth 20000 in
theorem abH {n:Nat}{y:DataW H×List MemPlace}(h:DataW.trod enc prog W base spare held n 118 a=some y):∃(e:bL) (vw:ay) (d:Nat),a=[aK e.ej,vw,.int .i64 e.exit]/\InG W vw e.eO d/\d+1<=Rows.uptoBulk y.1:=by
 obtain⟨j,k,w,q,i,c,b⟩:=DataW.trod_struct underlying118 h;rw[abl] at i;have c:j.length=3:=c
 match a,i with
 |[v0,v1,t],_=>
  match j,c with
  |[v,u,x],_=>
   have o:=b 0 _ rfl;have f:=b 1 _ rfl;have m:=b 2 _ rfl;simp[abo,abq,abB] at o f m;obtain⟨p,g,-,-⟩:=DataW.trod_string T0 o;obtain⟨r,s⟩:=aE f;obtain⟨z,l,-,-⟩:=DataW.trod_int UJ m;simp only[List.cons.injEq,and_true] at g l;refine⟨⟨p.data.toList,r,z⟩,v1,_,?_,s,?_⟩
   ·rw[g,l,abi p]
   ·rw[q];simp only[Ug,VL,Rows.uptoBulk,Rows.uptoBulkAll];omega
theorem abF (a:List bL):(a.flatMap (·.eO)).length=(a.map (·.eO.length)).sum:=by
 induction a with
 |nil=>rfl|cons e c b=>rw[Ud,TE,b,Ug,XG]
theorem abG {a:List bL}{e:bL}(h:e∈a):e.eO.length<=(a.flatMap (·.eO)).length:=by
 induction a with
 |nil=>cases h
 |cons d c b=>
  rw[Ud,TE];rcases Ue.1 h with rfl|h
  ·omega
  ·have:=b h;omega
theorem abm:∀(a:List Nat),(a.map (·+1)).sum=a.sum+a.length
 |[]=>rfl|x::b=>by simp only[Ug,XG,TK,abm b];omega
theorem abE {v:ay}{x:DataW H×List MemPlace}(h:DataW.trod enc prog W base spare held b 23 [v]=some x):∃B,InE W v B (Rows.uptoBulk x.1):=by
 rcases open_slice underlying23 h with⟨k,rfl⟩|⟨a,len,cap,m,n,D,Pc,z,X,ad,hm,G,rfl,T⟩
 ·simp only[List.cons.injEq,and_true] at k;exact⟨[],⟨none,0,0,0,k,λh=>by simp at h⟩,by simp[Rows.uptoBulk]⟩
 ·simp only[List.cons.injEq,and_true] at z;have ac:len<=m:=by rw[G];split<;>omega
  have N:∀c,c<len->∃e:bL,(∃vw g,(W.cell? (a.add (c*3))=some (aK e.ej)/\W.cell? ((a.add (c*3)).add 1)=some vw/\W.cell? ((a.add (c*3)).add 2)=some (.int .i64 e.exit))/\InG W vw e.eO g)/\e.eO.length+1<=Rows.uptoBulk (D c):=λc p=>by obtain⟨ab,f,o⟩:=T c (by omega);rw[abl] at f;obtain⟨_,-,s⟩:=World.cells?_some f;obtain⟨e,vw,g,rfl,w,u⟩:=abH o;have i:=s 0 (by omega);have j:=s 1 (by omega);have l:=s 2 (by omega);have hl:=w.sum;have aa:=wJ e.eO;have u:g+1<=Rows.uptoBulk (D c):=u;exact⟨e,⟨vw,g,⟨by simpa [Addr.add] using i,j,l⟩,w⟩,by omega⟩
  have Y:Inhabited bL:=⟨⟨[],[],0⟩⟩;obtain⟨F,r⟩:=choose_lt N;have q:((List.range len).map F).length=len:=by simp
  refine⟨(List.range len).map F,⟨some a,cap,a.block,a.off,by rw[q,z],λk=> ?_⟩,?_⟩
  ·rw[q] at k;obtain⟨vw,g,⟨i,-,-⟩,-⟩:=(r 0 k).1;obtain⟨R,C⟩:=abp i;have E :a.spot=none:=by simpa [Addr.add] using R
   have U :a.block<W.heap.size:=by simpa [Addr.add] using C
   refine⟨by cases a;simp_all,U,λc p=> ?_⟩;have I :c<len:=by omega
   obtain⟨⟨vw,g,⟨i,j,l⟩,P⟩,-⟩:=r c I;rw[add_add] at j l;rw[abt E] at i j l;simp only[Ut,X6];obtain⟨t,y,M,S,rfl,O⟩:=P.nQ;refine⟨i,by rw[Xj];exact l,?_⟩;by_cases f:0<(F c).eO.length
   ·obtain⟨K,V,L⟩:=O f;exact⟨t,y,M,S,by rw[Xj];exact j,λ_=>K,V,L⟩
   ·exact⟨t,y,0,0,by rw[Xj];exact j,λh=>absurd h f,λZ hj=>by omega,by omega⟩
  ·have f:=abh (λc=>(F c).eO.length+1) ((List.range len).map D) 0 (λc d A=>by
    obtain⟨p,rfl⟩:=TZ.1 A;simp only[TR,List.length_range] at p;simp only[Ut,X6,Ur];exact(r c p).2)
   rw[TR,List.length_range] at f;rw[abF,WT,q];have o:=abm ((List.range len).map λc=>(F c).eO.length);rw[WT,TR,List.length_range] at o;rw[<-List.range_eq_range'] at f;simp only[Rows.uptoBulk];have Q:((List.range len).map ((λx=>x+1)∘λc=>(F c).eO.length)).sum=((List.range len).map λc=>(F c).eO.length+1).sum:=rfl;have J:((List.range len).map ((λx=>x.eO.length)∘F)).sum=((List.range len).map λc=>(F c).eO.length).sum:=rfl;rw[J];rw[Q] at o;omega
end
section
open Go.ChangeMaps (open_string shut_string)
set_option maxRecDepth 100000 in
theorem abw (H:Type)(enc:TypeId×ay->H)(W:ax)(base:Nat)(args:Array ay)(p u:List (DataW H))(bj:List MemPlace)(g:∀(D:Nat) t v,Tryz.f3.params[D]?=some t->args[D]?=some v->Value.okWide prog W .any base t v)(I:DataW.Whole enc prog Tryz.f3.params.toList Rows.compilesSpec.vars false W args.toList p u bj)(hk:Rows.uptoSmall H (p++u)=true)(al:W.ShapedOpen prog):
 Calls prog 3 args W λe G=>∃v,e= .returned v/\Rows.compilesSpec.post enc prog Tryz.f3 false true false false W args v G :=by
 have o :=I;obtain⟨S,q,hA0,hV,rfl,aD,aK⟩:=I;have B:DataW.TrodAll enc prog W 0 (λ_=>true) true Tryz.f3.params.toList args.toList p S:=hA0;rw[params3] at B g;obtain⟨v0,ar,d0,ap,p0,q0,aB,rfl,rfl,h0,R⟩:=trodAll_cons B;obtain⟨v1,an,d1,aG,p1,q1,rfl,rfl,rfl,h1,r1⟩:=trodAll_cons R;obtain⟨E,aI,d2,au,p2,q2,rfl,rfl,rfl,h2,r2⟩:=trodAll_cons r1;obtain⟨w,aH,d3,aw,N,q3,rfl,rfl,rfl,V,r3⟩:=trodAll_cons r2;obtain⟨v4,aF,d4,aL,p4,q4,rfl,rfl,rfl,h4,r4⟩:=trodAll_cons r3;obtain⟨L,av,d5,aq,p5,q5,rfl,rfl,rfl,h5,r5⟩:=trodAll_cons r4;obtain⟨rfl,rfl,rfl⟩:=trodAll_nil r5;obtain rfl:args= #[v0,v1,E,w,v4,L]:=by cases args;simp_all
 obtain⟨rfl,rfl⟩:=trodVars_none hV;obtain⟨a1,n1,c1,rfl⟩:=okWide_slice WO (g 0 22 v0 rfl rfl);obtain⟨s,rfl,rfl,rfl,hs⟩:=open_string T0 (g 1 9 v1 rfl rfl) h1;obtain⟨k,rfl,rfl,rfl,ac⟩:=open_string T0 (g 2 9 E rfl rfl) h2;obtain⟨a3,n3,c3,rfl⟩:=okWide_slice WO (g 3 22 w rfl rfl);obtain⟨a2,n2,U,rfl⟩:=okWide_slice underlying23 (g 4 23 v4 rfl rfl);obtain⟨z,rfl,rfl,rfl,T⟩:=open_int UJ (g 5 3 L rfl rfl) h5;clear hA0;have m:∀x,x∈p0\/x∈N\/x∈p4->x.block<W.heap.size:=λx c=>o.lt x (by simpa using c);obtain⟨X,K⟩:=h0;obtain⟨aj,M⟩:=V;obtain⟨ah,J⟩:=h4;obtain⟨n,y⟩:=aE K;obtain⟨r,A⟩:=aE M;obtain⟨j,C⟩:=abE J;simp only[Vs] at o;have P:=Xe hk;simp only[Vs,Rows.uptoBulkAll,Rows.uptoBulk] at P;have aa:=y.sum;have af:=A.sum;have ai:=C.len;simp only at aa ai af;obtain⟨a,cap,b,Q,Z,k1⟩:=y.nQ;obtain⟨ao,co,bo,oo,e3,k3⟩:=A.nQ;obtain⟨ae,ce,be,oe,e2,Y⟩:=C.nQ;have am :=Z;have O :=e2;have ab :=e3;cases am;cases O;cases ab;have hm:(⟨s.data.toList.toArray⟩:az)=s:=(ie (t:=s) rfl).symm;have ad:(⟨k.data.toList.toArray⟩:az)=k:=(ie (t:=k) rfl).symm;have aC:=wJ n;have aA:=wJ r;have ag:∀e∈j,e.eO.length<=(j.flatMap (·.eO)).length:=λe d=>abG d;have F:=compiles_any s.data.toList k.data.toList n r (by omega) (by omega) j (n.map (·.aJ)++(r.map (·.aJ)++(j.flatMap (·.eO)).map (·.aJ))) a1 a3 a2 c1 b Q c3 bo oo U W.heap.size be oe z W k1 k3 Y ak (by omega) (λe d=>by have:=ag e d;omega) (by simp only[TE,TR];omega)
  (λf i=>Ul _ (List.mem_map_of_mem i)) (λf i=>Un _ (Ul _ (List.mem_map_of_mem i))) (λe d f i=>Un _ (Un _ (List.mem_map_of_mem (List.mem_flatMap_of_mem d i)))) (abC W al)
 rw[hm,ad] at F;refine F.mono λe G ⟨d,l⟩=> ?_;subst d;exact⟨_,rfl,_,_,_,_,_,_,o,trodAll_cons_mk (shut_bool UN _) trodAll_mk0,trodAll_cons_mk (Below.trod Tryz.abj (by kernel_rfl) (Xe (by kernel_rfl)) ⟨X,K⟩ l (λx c=>m x (.inl c))) (trodAll_cons_mk (shut_string T0 hs) (trodAll_cons_mk (shut_string T0 ac) (trodAll_cons_mk (Below.trod Tryz.abj (by kernel_rfl) (Xe (by kernel_rfl)) ⟨aj,M⟩ l (λx c=>m x (.inr (.inl c)))) (trodAll_cons_mk (Below.trod Tryz.abj (by kernel_rfl) (Xe (by kernel_rfl)) ⟨ah,J⟩ l (λx c=>m x (.inr (.inr c)))) (trodAll_cons_mk (shut_int UJ T) trodAll_mk0))))),rfl,l.frame _,λh=>by cases h⟩
end
set_option maxRecDepth 100000
theorem abv (a:Os):laidMet prog Rows.compilesUptoRow.laid (({World.holding prog a ⟨#[],#[],[]⟩ with heap:=cd (World.holding prog a ⟨#[],#[],[]⟩).heap}:ax).forCall (λ_ _=>0) ⟨#[],#[.slice none 0 0,.string ⟨#[]⟩,.string ⟨#[]⟩,.slice none 0 0,.slice none 0 0,.int .i64 0],[]⟩).memory:=laidMet_of_run' 8 (by kernel_rfl) (by kernel_rfl)
theorem abz (a:Os){H:Type}(enc:TypeId×ay->H):∃b,DataW.whole enc prog (({World.holding prog a ⟨#[],#[],[]⟩ with heap:=cd (World.holding prog a ⟨#[],#[],[]⟩).heap}:ax).forCall (λ_ _=>0) ⟨#[],#[.slice none 0 0,.string ⟨#[]⟩,.string ⟨#[]⟩,.slice none 0 0,.slice none 0 0,.int .i64 0],[]⟩).memory Tryz.f3.params.toList Rows.compilesSpec.vars false #[Value.slice none 0 0,.string ⟨#[]⟩,.string ⟨#[]⟩,.slice none 0 0,.slice none 0 0,.int .i64 0].toList 8=some ([.nil,.lit (.string []),.lit (.string []),.nil,.nil,.lit (.int .i64 0)],[],b):=⟨[],by kernel_rfl⟩
theorem abx (a:Os)(c:a.Started)(H:Type)(enc:TypeId×ay->H)(F:Stop.Interp):
 ReturnsInHanded {} checked a 3 .any ((Rows.OpenSpec.upto Rows.compilesSpec).preRow enc prog Tryz.f3 Rows.compilesUptoRow.domain false Rows.compilesUptoRow.laid) (((Rows.OpenSpec.upto Rows.compilesSpec).at F).post enc prog Tryz.f3 false true false false):=by
 obtain⟨l,d⟩:=abz a enc;refine returnsInHanded_of_row (C:=checked) (s:=Rows.OpenSpec.upto Rows.compilesSpec) bI c (by kernel_rfl) func3
  (witness_row_at (enc:=enc) (C:=checked) false ({World.holding prog a ⟨#[],#[],[]⟩ with heap:=cd (World.holding prog a ⟨#[],#[],[]⟩).heap}) #[.slice none 0 0,.string ⟨#[]⟩,.string ⟨#[]⟩,.slice none 0 0,.slice none 0 0,.int .i64 0] rfl (by kernel_rfl) (by kernel_rfl) (by kernel_rfl)
   (OpenSpec.preRow_of_cond 8 d (by kernel_rfl) (λk e=>by cases e;kernel_rfl) (by kernel_rfl) (abv a))) ?_
 intro W base args j h bj i f _ b _ m g _;exact abw H enc W base args j h bj i f (b _ rfl) g
