/- . -/
import Derived.Test.YtjelacjggijmfaaGreatDoorYSP4
import Derived.Test.YtjelacjggijmfaaGreatDoorYSR2
import Derived.Lib.IndexBytes
import Derived.Deep.RegionLaw
set_option maxHeartbeats 2000000
set_option maxRecDepth 20000
namespace Go.Pl
open Pl Mk Cp Proofs.Tryz
open RowKit
structure aI where
 aJ:Bs
 aT:Bs
 jc:Int
structure bL where
 ej:Bs
 eO:List aI
 exit:Int
structure Wd where
 aX:List aI
 aP:Int
 aH:List Bs
 exit:Int
def look (b:List aI)(a:Bs):Option aI:=b.find? (λf=>f.aJ==a)
def gm:List aI->aI->List aI
 |[],f=>[f]
 |a::b,f=>if a.aJ==f.aJ then f::b else a::gm b f
def bp (a:List aI)(f:aI):List aI:=if(look a f.aJ).isSome then a else a++[f]
def gQ (b:List aI)(a:Int):Wd:=⟨b.foldl bp [],a,[],0⟩
def ks (a:Int)(f:aI):aI:=⟨f.aJ,f.aT,a⟩
def ia (a:List bL)(X:Wd)(c:Bs):Wd:=
 match a.find? (λe=>e.ej==c) with
 |none=>⟨X.aX,wrap64 (X.aP+1),X.aH++[c],X.exit⟩
 |some e=>⟨e.eO.foldl (λb f=>gm b (ks (wrap64 (X.aP+1)) f)) X.aX,wrap64 (X.aP+1),X.aH++[c],e.exit⟩
def h_ (c:List aI)(s d:Bs):Bool:=match look c s,look c d with|some a,some b=>decide (a.jc<b.jc)|_,_=>false
def dG (d:List Bs)(e:List bL)(a:pH)(b:List Bool)(c:Nat->Bool)(X:Wd):Nat×List Bool×(Nat->Bool)×Wd:=
 if a.op=1 then(a.next,b++[a.first==1],c,X)
 else if a.op=2 then(a.next,b++[(look X.aX (d.getD a.first [])).isNone],c,X)
 else if a.op=3 then(a.next,b++[h_ X.aX (d.getD a.first []) (d.getD a.s7 [])],c,X)
 else if a.op=4 then(a.next,b++[c a.first],c,X)
 else if a.op=5 then(a.next,b.dropLast.dropLast++[b.getLast?.getD false||b.dropLast.getLast?.getD false],c,X)
 else if a.op=6 then(if b.getLast?.getD false then a.next else a.next+a.first,b.dropLast,c,X)
 else if a.op=7 then(a.next,b,c,ia e X (d.getD a.first []))
 else(a.next,b,λq=>if q=a.first then true else c q,X)
def oI (c:Bs)(a:List Bs)(d:List bL):Nat->Nat->List Bool->(Nat->Bool)->Wd->Wd
 |0,_,_,_,X=>X
 |f+1,b,e,g,X=>if b<c.length/\X.exit=0 then
  oI c a d f (dG a d (a_ c b) e g X).1 (dG a d (a_ c b) e g X).2.1 (dG a d (a_ c b) e g X).2.2.1 (dG a d (a_ c b) e g X).2.2.2 else X
theorem Py {c:Bs}{b:List Bs}{e:List bL}{f a:Nat}{d:List Bool}{g:Nat->Bool}{X:Wd}(h:¬(a<c.length/\X.exit=0)):oI c b e f a d g X=X:=by
 cases f with
 |zero=>rfl|succ f=>rw[oI,TJ h]
def mg (f:aI):List aI->List aI
 |[]=>[f]
 |a::b=>if f.aJ<a.aJ then f::a::b else a::mg f b
def eX (a:List aI):List aI:=a.foldl (λb f=>mg f b) []
theorem Kz (a:List aI)(f:aI)(q:Bs):look (a++[f]) q=(look a q).or (if f.aJ=q then some f else none):=by
 unfold look;rw[List.find?_append];congr 1;by_cases h:f.aJ=q
 ·simp[h]
 ·simp[h]
theorem Pd (a:List aI)(f:aI)(q:Bs):look (bp a f) q=(look a q).or (if f.aJ=q then some f else none):=by
 unfold bp;split
 ·rename_i h;by_cases e:f.aJ=q
  ·subst e;cases k:look a f.aJ with
   |none=>rw[k] at h;cases h
   |some x=>rfl
  ·rw[TJ e,Option.or_none]
 ·exact Kz a f q
def oG (a:List aI):Prop:=(a.map (·.aJ)).Nodup
variable {c:List aI}
theorem wj {q:Bs}:look c q=none↔q∉c.map (·.aJ):=by unfold look;rw[Vm];simp
theorem Ob {f:aI}(h:oG c):oG (bp c f):=by
 unfold bp;split
 ·exact h
 ·rename_i k;have:look c f.aJ=none:=by
   cases e:look c f.aJ with
   |none=>rfl|some x=>rw[e] at k;exact absurd rfl k
  rw[wj] at this;unfold oG at*;rw[T',Vc];exact⟨h,by simp,λa g b d=>by simp at d;subst d;exact λe=>this (e▸g)⟩
theorem EU (a:List aI)(f:aI):(gm a f).map (·.aJ)=if f.aJ∈a.map (·.aJ) then a.map (·.aJ) else a.map (·.aJ)++[f.aJ]:=by
 induction a with
 |nil=>simp[gm]
 |cons c h g=>
  unfold gm;by_cases b:c.aJ=f.aJ
  ·rw[TP (by simpa using b)];simp[b]
  ·rw[TJ (by simpa using b),Ug,g];have d :¬f.aJ=c.aJ:=λe=>b e.symm;by_cases k:f.aJ∈h.map (·.aJ)
   ·rw[TP k,TP (by simp only[Ug,Ue];exact .inr k)];rfl
   ·rw[TJ k,TJ (by simp only[Ug,Ue];exact λe=>e.elim d k)];rfl
theorem Of {f:aI}(h:oG c):oG (gm c f):=by
 unfold oG at*;rw[EU];split
 ·exact h
 ·rename_i k;rw[Vc];exact⟨h,by simp,λa g b d=>by simp at d;subst d;exact λe=>k (e▸g)⟩
end Go.Pl
namespace Go.Proofs.YtjelacjggijmfaaGreatDoor
open Pl Mk Cp Proofs.Tryz
open RowKit
open Maps
open Shelf
section
attribute [local go_sem] W9
end
section
attribute [local go_sem] W9
end
def aK (a:List UInt8):ay:= .string ⟨a.toArray⟩
theorem Tryz.kJ:(Tryz.prog.info? 9).map (λa=>(a.zero,a.size,a.bytes))=some (some (.string ⟨#[]⟩),1,16):=by kernel_rfl
structure nu (s:ag)(n k:Nat)(r:ag)(aC:List ag):Prop where
 eq:Pl.aY n (s.drop 4)=(Pl.aY (n-k) r).map (λx=>(aC++x.1,x.2))
 len:aC.length=k
 le:k<=n
 size:r.length<=s.length
theorem nu.start (s:ag)(n:Nat):nu s n 0 (s.drop 4) []:=⟨by simp,rfl,TS _,by simp⟩
variable {b:ag}{j:List ag}
theorem nu.next {s:ag}{n k:Nat}(h:nu s n k b j)(a:k<n)(c:2<=b.length/\2+two b 0<=b.length):
 nu s n (k+1) (b.drop (2+two b 0)) (j++[(b.drop 2).take (two b 0)]):=by refine⟨?_,by simp[h.len],a,by have:=h.size;simp;omega⟩;rw[h.eq,show n-k=(n-(k+1))+1 from by omega,M' _ _ c]
theorem nu.gS {s:ag}{n k:Nat}(h:nu s n k b j)(c:k<n)(a:¬(2<=b.length/\2+two b 0<=b.length)):Pl.aY n (s.drop 4)=none:=by rw[h.eq,show n-k=(n-(k+1))+1 from by omega,Pk _ _ a];rfl
theorem nu.done {s:ag}{n k:Nat}(h:nu s n k b j)(c:¬k<n):Pl.aY n (s.drop 4)=some (j,b)/\j.length=n:=by
 have d:=h.le;obtain rfl:k=n:=by omega
 have a:=h.eq;rw[XT] at a;rw[a];exact⟨by simp[Pl.aY],h.len⟩
theorem yc {f:Program}{o:Array Oper}{b:Oper}{a:Act}{w:ax}{K:Act->ax->Prop}{Q:Exit->Act->ax->Prop}{E:Prop}(t:b.guard=none)(s x:Operand)(j:TypeId)(r:b.op=Op.call {callee:=Callee.builtin Builtin.append,args:= #[s,x],argTypes:= #[j,j]})(base:Nat)(e:TypeId)(g:TypeInfo)(z:ay)(size bytes:Nat)(O:f.underlying j=some (.slice e))(y:f.info? e=some g)(H:g.zero=some z)(C:g.size=size)(P:g.bytes=bytes)(T:z.cells.size=size)(N:0<size)(v:ay)(n:Nat)(k:List ay)(G:a.eval s=v)(U:w.ownsRow base e size v n k)(l:Addr)(m c:Nat)(d:List ay)(I:a.eval x= .slice (some l) m c)(S:d.length=m*size)(A:∀p u,d[p]?=some u->w.cell? (l.add p)=some u)(B:∀u∈d,u.oneCell' =true)(R:n+m<=maxLen)(L:(n+m)*bytes<=140737488355328)(M:base<=w.heap.size)(D:∀i h,h.ownsRow base e size i (n+m) (k++d)->w.grownBy h v.ownBlock->K (a.put b.dst i) h):
 if Region.wanted b (yielded o a.tmps)=true then Oper.wp f b a w K Q else E:=by
 have J:Region.wanted b (yielded o a.tmps)=true:=by simp[Region.wanted,t]
 rw[TP J];obtain⟨i,h,V,F,q,_⟩:=run_append_own (P:=f) w base j b.type e g z size bytes O y H C P T N v n k U l m c d S A B R L M;unfold Oper.wp;simp[execOp,r,resolve,invoke,builtin,G,I,V,Result.andThen];exact D i h F q
variable {l h:List ay}
theorem d_ {w:ax}{B e size:Nat}{v:ay}{n:Nat}(h:w.ownsRow B e size v n l)(i:0<n):∃a cap,v= .slice (some ⟨a,0,none⟩) n cap/\B<=a/\a<w.heap.size:=by
 rcases h.2 with⟨c,b⟩|⟨a,cap,g,c,b,d,f,k,m,j⟩
 ·omega
 ·exact⟨a,cap,c,b,(TN.1 d).1⟩
def gj (w:ax)(B:Nat)(v:ay)(a:List ag):Prop:=w.ownsRow B 9 1 v a.length (a.map aK)
theorem gj.nil (w:ax)(B:Nat):gj w B (.slice none 0 0) []:=Uk _ _ _ _
variable {f:ax}
theorem gj.aE {w:ax}{B:Nat}{v:ay}(h:gj w B v j)(a:Below w.heap.size w f):gj f B v j:=h.kept (row:=none) ⟨a.os,a.tape,a.output,a.size,λk b _=>a.block k b⟩ (by cases v.ownBlock<;>simp)
theorem gj.shape {w:ax}{B:Nat}{v:ay}(h:gj w B v j):∃a cap,v= .slice a j.length cap:=by
 rcases h.2 with⟨b,c⟩|⟨f,cap,k,b,c,l,g,e,i,d⟩
 ·exact⟨none,0,by rw[b,c]⟩
 ·exact⟨_,cap,b⟩
structure N9 (s:ag)(w:ax)(e:Ending)(w' :ax):Prop where
 gE:(Pl.load s=none/\∃p,e= .returned (.tuple #[.pointer p,.bool false]))\/
  ∃ss c b v,Pl.load s=some (ss,c)/\e= .returned (.tuple #[.pointer (some ⟨b,0,none⟩),.bool true])/\aG w' b 97 [v,.string ⟨c.toArray⟩]/\gj w' (b+1) v ss/\w.heap.size<=b
 aL:Below w.heap.size w w'
structure uT (w:ax)(v:ay)(aC:List ag)(W:ax):Prop where
 dS:aG W w.heap.size 97 [v,.string ⟨#[]⟩]
 row:gj W (w.heap.size+1) v aC
 aL:Below w.heap.size w W
variable {n:Obj}{e:Option Nat}
theorem JQ {wr:ax}(h:(wr.alloc n).drew.drew.grownBy f e):wr.grownBy f e:=(UK wr n e).trans ⟨h.os,h.tape,h.output,h.size,h.block⟩
theorem dD {w:ax}{B e size:Nat}{v:ay}{n:Nat}(h:w.ownsRow B e size v n l){N:Nat}(a:N<B):some N≠v.ownBlock:=λe=>by have:=(h.lt N e.symm).1;omega
theorem uT.push {w:ax}{v v' :ay}{X Y:ax}(h:uT w v j X)(a:X.grownBy Y v.ownBlock)(d:Y.ownsRow (w.heap.size+1) 9 1 v' (j.length+1) (j.map aK++[aK b])):
 uT w v' (j++[b]) (Y.setCell ⟨w.heap.size,0,none⟩ v'):=by
 have f:=dD h.row (V7 w.heap.size);have i :=dD d (V7 w.heap.size);have g:aG Y w.heap.size 97 [v,.string ⟨#[]⟩]:=h.dS.grown a f;refine⟨g.set 0 v',?_,?_⟩
 ·unfold gj;simp only[TE,TK,T1,T',Ug,VL];refine d.kept (row:=some w.heap.size) ⟨rfl,rfl,rfl,by simp[World.setCell],λk _ c=>T5 Y ⟨w.heap.size,0,none⟩ v' k (λe=>c (by rw[show k=w.heap.size from e]))⟩ (.inr (λe=>i e.symm))
 ·have l:Below w.heap.size w Y:=h.aL.trans ⟨a.os,a.tape,a.output,a.size,λk c=>a.block k (by have:=h.dS.lt;omega) (dD h.row (by omega))⟩;exact l.setCell (p:=⟨w.heap.size,0,none⟩) ak _
theorem Pu (s:ag)(a:Nat):two (s.drop a) 0=two s a:=by unfold two;simp[List.getD_eq_getElem?_getD]
theorem L7 (a:List UInt8):(((⟨a.toArray⟩:az).extract 0 2).toList==[80,49])=decide (a.take 2=[80,49]):=by rw[Lib.extract_toList,sI,U3];simp
theorem FL (b:List UInt8)(w:ax)(r:b.length<=8388608):
 Calls prog 42 #[.string ⟨b.toArray⟩] w λe w'=>N9 b w e w' :=by
 have m:=eh b;have D:=L7 b;have f:=sI b;by_cases B:4<=b.length
 ·have ao:(4:Int)<=(⟨b.toArray⟩:az).size:=by rw[m];omega
  by_cases j:b.take 2=[80,49]
  ·rw[Uz j] at D;have C:=aB (λw=>ng ⟨b.toArray⟩ 2 w (by rw[m];omega) (by rw[m];exact r));rw[f] at C;by_cases hn:two b 2<=1000
   ·have g:Hid (Pl.load b=Pl.aY (two b 2) (b.drop 4)):=by
     show _=_;unfold Pl.load;rw[TP ⟨B,j,hn⟩]
    have af:=aB (nu.start b (two b 2));generalize two b 2=n at*;have ad :(n:Int)<=1000:=by omega
    have HL:=aB r;generalize l:(⟨b.toArray⟩:az)=S at*;have y:=aB m;have G:2<=S.size:=by omega
    have E:decide ((S.size:Int)<4)=false:=by rw[VC];omega
    clear j f r m;go_enter aaX,aam;go_wp2_with fail
    refine(C.u _).mono ?_;rintro e t ⟨rfl,rfl⟩;go_wp2_with fail
    have aD:Hid (uT w (.slice none 0 0) [] (w.alloc (.cells #[.slice none 0 0,.string ⟨#[]⟩] 97)).drew):=⟨aG.bA w 97 [.slice none 0 0,.string ⟨#[]⟩],gj.nil _ _,(aj w _).drew⟩;obtain⟨i0,R,P,Y,aa⟩:=UF Tryz.kJ;have ac:=aB R;have av:=aB P;have ar:=aB Y;have aq:=aB aa;have U:=aB l;clear D ao G E C R P Y aa l;go_loopw [6,7] (λeD F wr=>∃(c k:Nat) (p:List ag) (v:ay),eD= .int .i64 c/\F= .int .i64 k/\c<=S.size/\Hid (nu b n k (b.drop c) p)/\Hid (uT w v p wr)) (λ_ F _=>n-aS F)
    case atStart=>exact⟨4,0,[],_,rfl,rfl,by rw[y.u];exact B,af,aD⟩
    case round=>
     obtain⟨c,k,p,v,rfl,rfl,aJ,i,d⟩:=hrel;have al:S.size<=8388608:=by rw[y.u];exact HL.u
     by_cases s:k<n
     ·by_cases j:c+2<=S.size
      ·have z:=aB (λw=>ng S c w j al);have f:S.data.toList=b:=by rw[<-U.u]
       rw[f] at z;have A:=Pu b c;have ah:=H8 b c;by_cases h3:c+2+two b c<=S.size
       ·have X:2<=(b.drop c).length/\2+two (b.drop c) 0<=(b.drop c).length:=by
         rw[A,UM,<-y.u];omega
        have o:=aB (i.u.next s X);rw[A,Ws] at o;obtain⟨q,N⟩:∃q,q=c+2:=⟨_,rfl⟩;obtain⟨h,I⟩:∃h,h=c+2+two b c:=⟨_,rfl⟩;have Z:S.extract q h=⟨(((b.drop c).drop 2).take (two b c)).toArray⟩:=by apply ie;rw[Wj,f,Ws,N,I];congr 1;omega
        rw[show c+(2+two b c)=h from by omega] at o;generalize ((b.drop c).drop 2).take (two b c)=ap at*;generalize two b c=L at*;have H:IntKind.i64.wrap ((c:Int)+2)=(q:Int):=by simp[IntKind.wrap,IntKind.signed,IntKind.bits];omega
        have K:IntKind.i64.wrap ((q:Int)+(L:Int))=(h:Int):=by simp[IntKind.wrap,IntKind.signed,IntKind.bits];omega
        have aA:=i.u.len;obtain⟨a,cap,rfl⟩:=d.u.row.shape;have x:=d.u.dS;have O:=d.u.row;have c0:=x.cell 0 (by simp);have f0:=x.frozen 0;simp only[TG] at c0;have aH:=x.lt;have i1:q<=h:=by omega
        have i2:h<=S.size:=by omega
        have ae:=aB Z;have E1:=aB H;have E2:=aB K;have HT:=aB I;have HR:=aB O;have aw:=aB x;have aN:p.length<1000:=by omega
        clear i f A X Z H K O x aA I N ah;go_wp2_with fail
        refine(z.u _).mono ?_;rintro e t ⟨rfl,rfl⟩;go_wp2_with fail
        have H:=E1.u;have K:=E2.u;go_region_law (refine yc rfl (.tmp 49) (.tmp 58) 30 rfl (w.heap.size+1) 9 i0 (.string ⟨#[]⟩) 1 16 UC ac.u av.u ar.u aq.u rfl (by decide) _ p.length _ (by simp[Act.eval]) (HR.u.alloc _) ⟨_,0,none⟩ 1 1 [.string (S.extract q h)] (by simp[Act.eval]) rfl (XU _ _ _) (by intro u V;simp at V;subst V;rfl) (by unfold maxLen;omega) (by omega) (by simp;omega) ?_;intro v1 t M W;obtain⟨g1,aE,rfl,aF,aM⟩:=d_ M (by omega);have T:=aB (JQ W);have J:=aw.u.grown T.u (dD HR.u (V7 _));have d0:=J.cell 0 (by simp);have g0:=J.frozen 0;simp only[TG] at d0;have am:=aB M;clear M W J)
        all_goals go_wp2_with fail
        all_goals go_roundw
        all_goals first
         |exact⟨h,k+1,p++[ap],_,rfl,by go_num,by omega,o,d.u.push T.u (by have:=am.u;rw[ae.u] at this;exact this)⟩
         |(simp only[aS];omega)
       ·have o:=aB (i.u.gS s (by rw[A,UM,<-y.u];omega));generalize two b c=L at*;have aI:=d.u.dS.lt;have aK :(S.size:Int)<(c:Int)+2+(L:Int):=by omega
        clear i f A;go_wp2_with fail
        refine(z.u _).mono ?_;rintro e t ⟨rfl,rfl⟩;go_wp2_with fail
        refine Ua (v:= .tuple #[.pointer (some ⟨w.heap.size,0,none⟩),.bool false]) ?_ rfl ⟨.inl ⟨g.u.trans o.u,_,rfl⟩,d.u.aL.drew⟩;simp[results,results42,go_sem]
      ·have z:=aB (λw=>KY S c w (by omega) (by omega));have o:=aB (i.u.gS s (by rw[UM,<-y.u];omega));clear i;go_wp2_with fail
       refine(z.u _).mono ?_;rintro e t ⟨rfl,rfl⟩;go_wp2_with fail
       refine Ua (v:= .tuple #[.pointer (some ⟨w.heap.size,0,none⟩),.bool false]) ?_ rfl ⟨.inl ⟨g.u.trans o.u,_,rfl⟩,d.u.aL⟩;simp[results,results42,go_sem]
     ·obtain⟨Q,ai⟩:=i.u.done s;have au:=aB (g.u.trans Q);have ab:S.extract c S.size=⟨(b.drop c).toArray⟩:=by apply ie;rw[VY,<-U.u]
      have an:=aB ab;have c1:=d.u.dS.cell 1 (by simp);have f1:=d.u.dS.frozen 1;simp only[TG,TI] at c1;clear i ab Q ai;go_wp2_with fail
      have aU:=dD d.u.row (V7 w.heap.size);refine Ua (v:= .tuple #[.pointer (some ⟨w.heap.size,0,none⟩),.bool true]) ?_ rfl ⟨.inr ⟨p,b.drop c,w.heap.size,v,au.u,rfl,?_,?_,TD _⟩,d.u.aL.setCell (p:=⟨w.heap.size,1,none⟩) ak _⟩
      ·simp[results,results42,go_sem]
      ·rw[<-an.u];exact d.u.dS.set 1 _
      ·refine d.u.row.kept (row:=some w.heap.size) ⟨rfl,rfl,rfl,by simp[World.setCell],λk _ s=>T5 wr ⟨w.heap.size,1,none⟩ _ k (λe=>s (by rw[show k=w.heap.size from e]))⟩ (.inr (λe=>aU e.symm))
   ·have g:Hid (Pl.load b=none):=by
     show _=_;unfold Pl.load;rw[TJ (λe=>hn e.2.2)]
    generalize two b 2=n at*;have ad :(1000:Int)<n:=by omega
    generalize l:(⟨b.toArray⟩:az)=S at*;have G:2<=S.size:=by omega
    have E:decide ((S.size:Int)<4)=false:=by rw[VC];omega
    clear j f r m l;go_enter aaX,aam;go_wp2_with fail
    refine(C.u _).mono ?_;rintro e t ⟨rfl,rfl⟩;go_wp2_with fail
    refine Ua (v:= .tuple #[.pointer (some ⟨w.heap.size,0,none⟩),.bool false]) ?_ rfl ⟨.inl ⟨g.u,_,rfl⟩,(aj w _).drew⟩;simp[results,results42,go_sem]
  ·rw[UA j] at D;have g:Hid (Pl.load b=none):=by show _=_;unfold Pl.load;rw[TJ (λe=>j e.2.1)]
   generalize l:(⟨b.toArray⟩:az)=S at*;have G:2<=S.size:=by omega
   have E:decide ((S.size:Int)<4)=false:=by rw[VC];omega
   clear j f r m l;go_enter aaX,aam;go_wp2_with fail
   refine Ua (v:= .tuple #[.pointer (some ⟨w.heap.size,0,none⟩),.bool false]) ?_ rfl ⟨.inl ⟨g.u,_,rfl⟩,aj w _⟩;simp[results,results42,go_sem]
 ·have g:Hid (Pl.load b=none):=by
   show _=_;unfold Pl.load;rw[TJ (λe=>B e.1)]
  generalize l:(⟨b.toArray⟩:az)=S at*;have E:decide ((S.size:Int)<4)=true:=by rw[U6];omega
  have aO:(S.size:Int)<4:=by omega
  clear f r m l D B;go_enter aaX,aam;go_wp2_with fail
  refine Ua (v:= .tuple #[.pointer (some ⟨w.heap.size,0,none⟩),.bool false]) ?_ rfl ⟨.inl ⟨g.u,_,rfl⟩,aj w _⟩;simp[results,results42,go_sem]
def fV (f:aI):List ay:=[aK f.aJ,aK f.aT,.int .i64 f.jc]
def gK (a:List aI):List ay:=a.flatMap fV
theorem JD (a:List aI):(gK a).length=a.length*3:=by
 induction a with
 |nil=>rfl|cons f c b=>unfold gK at*;rw[Ud,TE,b,TK];simp[fV];omega
theorem yA (b:List aI):∀(a:Nat) (h:a<b.length),(gK b)[a*3]?=some (aK b[a].aJ)/\(gK b)[a*3+1]?=some (aK b[a].aT)/\(gK b)[a*3+2]?=some (.int .i64 b[a].jc):=by
 induction b with
 |nil=>intro a h;simp at h
 |cons f e d=>
  intro a h;unfold gK;rw[Ud];cases a with
  |zero=>simp[fV]
  |succ a=>have:=d a (by simpa using h);unfold gK at this;have c:(fV f).length=3:=rfl;rw[Uq (by omega),Uq (by omega),Uq (by omega),c];rw[show (a+1)*3-3=a*3 from by omega,show (a+1)*3+1-3=a*3+1 from by omega,show (a+1)*3+2-3=a*3+2 from by omega];exact this
def dA (w:ax)(b d:Nat)(c:List aI):Prop:=∀a (h:a<c.length),w.cell? ⟨b,d+a*3,none⟩=some (aK c[a].aJ)/\w.cell? ⟨b,d+a*3+1,none⟩=some (aK c[a].aT)/\w.cell? ⟨b,d+a*3+2,none⟩=some (.int .i64 c[a].jc)
variable {a:Nat}{c:List aI}
theorem dA.aL {w:ax}{b n:Nat}(h:dA w b a c)(g:Below n w f)(d:b<n):dA f b a c:=λe i=>⟨(g.cell (p:=⟨b,_,none⟩) d).trans (h e i).1,(g.cell (p:=⟨b,_,none⟩) d).trans (h e i).2.1,(g.cell (p:=⟨b,_,none⟩) d).trans (h e i).2.2⟩
def nZ (b:List aI)(a:ag):Option Nat:=b.findIdx? (λf=>f.aJ==a)
def iG (b:List aI)(a:ag):Int:=match nZ b a with
 |some k=>k
 |none=> -1
theorem OA {k:Nat}(f:k<c.length)(e:∀a (h:a<k),c[a].aJ≠b)(d:c[k].aJ=b):iG c b=k:=by
 have:nZ c b=some k:=by unfold nZ;rw[Up];exact⟨f,by simpa using d,λa g=>by simpa using e a g⟩
 unfold iG;rw[this]
theorem QQ (e:∀a (h:a<c.length),c[a].aJ≠b):iG c b= -1:=by
 have:nZ c b=none:=by unfold nZ;rw[UO];intro x d;obtain⟨a,f,rfl⟩:=U8 d;simpa using e a f
 unfold iG;rw[this]
theorem n_ (c:List aI)(f:ag)(a:Option Addr)(cap b o:Nat)(w:ax)(p:0<c.length->a=some ⟨b,o,none⟩)(n:dA w b o c)(A:c.length<=16777216):
 Calls prog 45 #[.slice a c.length cap,aK f] w λe v=>e= .returned (.int .i64 (iG c f))/\w=v :=by
 have y:=aB n;have s:=aB p;clear n p;unfold aK;go_enter func45,ntmps45;go_wp2_with fail
 go_loopw [5] (λm wr=>∃k:Nat,m= .int .i64 k/\k<=c.length/\Hid (∀d (h:d<c.length),d<k->c[d].aJ≠f)/\wr=w) (λm _=>c.length-aS m)
 case atStart=>exact⟨0,rfl,TS _,λd _ h=>by omega,rfl⟩
 case round=>
  obtain⟨k,rfl,z,i,rfl⟩:=hrel;by_cases q:k<c.length
  ·obtain rfl:=s.u (by omega);obtain⟨t,-,-⟩:=y.u k q;unfold aK at t;by_cases g:c[k].aJ=f
   ·have l:=aB (OA q (λd j=>i.u d (by omega) j) g);have x:(c[k].aJ==f)=true:=by simpa using g
    clear g;go_wp2_with fail
    go_ret;exact⟨sJ l.u.symm,rfl⟩
   ·have x:(c[k].aJ==f)=false:=by simpa using g
    have r:Hid (∀d (h:d<c.length),d<k+1->c[d].aJ≠f):=by
     intro d h j;by_cases e:d=k
     ·subst e;exact g
     ·exact i.u d h (by omega)
    clear g i;go_wp2_with fail
    go_roundw
    case rel=>exact⟨k+1,by go_num,by omega,r,trivial⟩
    case measure=>simp only[aS];omega
  ·have l:=aB (QQ (λd j=>i.u d j (by omega)));clear i;go_wp2_with fail
   go_ret;exact⟨sJ l.u.symm,rfl⟩
theorem qU {w:ax}{B e size n cap:Nat}(h:w.ownsRow B e size (.slice (some ⟨a,0,none⟩) n cap) n l)(c:Nat)(u:ay):
 (w.setCell ⟨a,c,none⟩ u).ownsRow B e size (.slice (some ⟨a,0,none⟩) n cap) n (l.set c u):=by
 have j:=h.1;rcases h.2 with⟨b,d⟩|⟨p,q,g,b,d,i,f,m,o,k⟩
 ·cases b
 ·simp only[Yl,WN,abc,and_true,abg] at b;obtain⟨rfl,rfl⟩:=b;refine⟨by simpa using j,.inr ⟨a,cap,g.set! c u,rfl,d,?_,f,m,by simpa using o,?_⟩⟩
  ·simp[World.setCell,Array.getElem?_modify,i]
  ·rw[<-k];simp[List.take_set]
theorem dQ {w:ax}{B e size n:Nat}{v:ay}(h:w.ownsRow B e size v n l){c:Nat}(d:some c≠v.ownBlock)(a:Nat)(u:ay):(w.setCell ⟨c,a,none⟩ u).ownsRow B e size v n l:=h.kept (row:=some c) ⟨rfl,rfl,rfl,by simp[World.setCell],λk _ b=>T5 w ⟨c,a,none⟩ u k (λe=>b (by rw[show k=c from e]))⟩ (.inr (λe=>d e.symm))
def fR (w:ax)(B:Nat)(v:ay)(a:List aI):Prop:=w.ownsRow B 89 3 v a.length (gK a)
theorem fR.nil (w:ax)(B:Nat):fR w B (.slice none 0 0) []:=Uk _ _ _ _
theorem fR.aE {w:ax}{B:Nat}{v:ay}(h:fR w B v c)(a:Below w.heap.size w f):fR f B v c:=h.kept (row:=none) ⟨a.os,a.tape,a.output,a.size,λk b _=>a.block k b⟩ (by cases v.ownBlock<;>simp)
theorem fR.rd {w:ax}{B:Nat}{v:ay}(h:fR w B v c):∃a cap b,v= .slice a c.length cap/\(0<c.length->a=some ⟨b,0,none⟩)/\dA w b 0 c/\(0<c.length->B<=b/\b<w.heap.size/\∀d,w.frozen? ⟨b,d,none⟩=false):=by
 have j:=λb f=>World.ownsRow.cells (g:=b) h f;rcases h.2 with⟨g,i⟩|⟨b,cap,A,g,i,p,y,x,z,u⟩
 ·exact⟨none,0,0,by rw[g,i],λk=>by omega,λm q=>by omega,λk=>by omega⟩
 ·refine⟨_,cap,b,g,λ_=>rfl,λm q=> ?_,λ_=>⟨i,(TN.1 p).1,λd=>by simp[World.frozen?,p]⟩⟩;have f:v.ownBlock=some b:=by rw[g];rfl
  obtain⟨t,s,r⟩:=yA c m q;have n:=j b f _ _ t;have o:=j b f _ _ s;have l:=j b f _ _ r;have e:∀d,(⟨b,0,none⟩:Addr).add d=⟨b,0+d,none⟩:=λd=>by unfold Addr.add;split<;>simp_all
  rw[e] at n o l;exact⟨n,o,l⟩
theorem Co (a:List aI)(f:aI):∀(k:Nat) (_:k<a.length),(((gK a).set (k*3) (aK f.aJ)).set (k*3+1) (aK f.aT)).set (k*3+2) (.int .i64 f.jc)=gK (a.set k f):=by
 induction a with
 |nil=>intro k h;simp at h
 |cons d e c=>
  intro k h;cases k with
  |zero=>simp[gK,fV]
  |succ k=>have:=c k (by simpa using h);unfold gK at*;rw[VM,Ud,Ud];have b:(fV d).length=3:=rfl;rw[Vg _ _ (by omega),Vg _ _ (by omega),Vg _ _ (by omega),b];rw[show (k+1)*3-3=k*3 from by omega,show (k+1)*3+1-3=k*3+1 from by omega,show (k+1)*3+2-3=k*3+2 from by omega,this]
theorem fR.set {w:ax}{B cap:Nat}(h:fR w B (.slice (some ⟨a,0,none⟩) c.length cap) c)(k:Nat)(b:k<c.length)(f:aI):
 fR (((w.setCell ⟨a,k*3,none⟩ (aK f.aJ)).setCell ⟨a,k*3+1,none⟩ (aK f.aT)).setCell ⟨a,k*3+2,none⟩ (.int .i64 f.jc)) B (.slice (some ⟨a,0,none⟩) c.length cap) (c.set k f):=by unfold fR at*;have:=qU (qU (qU h (k*3) (aK f.aJ)) (k*3+1) (aK f.aT)) (k*3+2) (.int .i64 f.jc);rw[Co c f k b] at this;simpa using this
theorem oy {w:ax}{B e f a b n m:Nat}{v u:ay}(k:w.ownsRow B e a v n l)(g:w.ownsRow B f b u m h)(p:e≠f):v.ownBlock=none\/v.ownBlock≠u.ownBlock:=by
 rcases k.2 with⟨rfl,_⟩|⟨o,cap,r,rfl,_,j,_⟩
 ·exact .inl rfl
 ·right;rcases g.2 with⟨rfl,_⟩|⟨d,s,q,rfl,_,c,_⟩
  ·simp[Value.ownBlock]
  ·intro i;have:o=d :=by simpa [Value.ownBlock] using i
   subst this;rw[j] at c;cases c;exact p rfl
structure xr (w:ax)(L b o:Nat)(e:bL):Prop where
 ej:w.cell? ⟨b,o,none⟩=some (aK e.ej)
 exit:w.cell? ⟨b,o+2,none⟩=some (.int .i64 e.exit)
 eO:∃aw cw bw ow,w.cell? ⟨b,o+1,none⟩=some (.slice aw e.eO.length cw)/\(0<e.eO.length->aw=some ⟨bw,ow,none⟩)/\dA w bw ow e.eO/\bw<L
def nP (w:ax)(L b d:Nat)(c:List bL):Prop:=b<L/\∀a (h:a<c.length),xr w L b (d+a*3) c[a]
theorem xr.aL {w:ax}{L b:Nat}{e:bL}(h:xr w L b a e)(c:Below L w f)(d:b<L):xr f L b a e:=by obtain⟨m,i,n,q,r,l,k,j,o,g⟩:=h;exact⟨(c.cell (p:=⟨b,_,none⟩) d).trans m,(c.cell (p:=⟨b,_,none⟩) d).trans i,n,q,r,l,(c.cell (p:=⟨b,_,none⟩) d).trans k,j,o.aL c g,g⟩
theorem nP.aL {w:ax}{L b:Nat}{c:List bL}(h:nP w L b a c)(e:Below L w f):nP f L b a c:=⟨h.1,λd g=>(h.2 d g).aL e h.1⟩
structure RW (w:ax)(B bx:Nat)(ve vf vc:ay)(X:Wd):Prop where
 row:aG w bx 99 [vf,.int .i64 X.aP,ve,vc,.int .i64 X.exit]
 aX:fR w B vf X.aX
 aH:gj w B vc X.aH
 lt:bx<B
variable {d i g k o:ay}
theorem RW.aE {w:ax}{B:Nat}{vc:ay}{X:Wd}(h:RW w B a d i vc X)(b:Below w.heap.size w f):RW f B a d i vc X:=⟨h.row.aE b,h.aX.aE b,h.aH.aE b,h.lt⟩
theorem oY {fs:List aI}{p:ag}:(iG fs p= -1/\Pl.look fs p=none)\/∃(k:Nat) (h:k<fs.length),iG fs p=k/\Pl.look fs p=some fs[k]:=by
 unfold iG;cases e:nZ fs p with
 |none=>left;refine⟨rfl,?_⟩;unfold nZ at e;unfold Pl.look;rw[UO] at e;rw[Vm];intro x g;simpa using e x g
 |some k=>right;unfold nZ at e;rw[Up] at e;obtain⟨a,d,c⟩:=e;refine⟨k,a,rfl,?_⟩;unfold Pl.look;rw[WC];exact⟨d,k,a,rfl,λf b=>by simpa using c f b⟩
theorem BH (s c:ag)(B v:Nat)(I C E:ay)(X:Wd)(w:ax)(h:RW w B v I C E X)(x:X.aX.length<=16777216):
 Calls prog 48 #[.pointer (some ⟨v,0,none⟩),aK s,aK c] w λe H=>e= .returned (.bool (h_ X.aX s c))/\Below w.heap.size w H :=by
 obtain⟨a,cap,y,rfl,t,q,-⟩:=h.aX.rd;have D:=h.row.cell 0 (by simp);simp only[TG] at D;have f:=aB (n_ X.aX s a cap y 0 w t q x);have g:=aB (n_ X.aX c a cap y 0 w t q x);unfold aK at f g⊢;have j:Hid (h_ X.aX s c=match Pl.look X.aX s,Pl.look X.aX c with|some a,some b=>decide (a.jc<b.jc)|_,_=>false):=rfl;have A:=aB q;clear h q;rcases oY (fs:=X.aX) (p:=s) with⟨i,d⟩|⟨r,J,i,d⟩
 ·rw[i] at f;have n:Hid (h_ X.aX s c=false):=by show _=_;rw[j.u,d]
  generalize iG X.aX c=z at*;clear i d j;go_enter func48,ntmps48;go_wp2_with fail
  refine f.u.mono ?_;rintro e k ⟨rfl,rfl⟩;go_wp2_with fail
  refine g.u.mono ?_;rintro e k ⟨rfl,rfl⟩;go_wp2_with fail
  go_quiet (fail)
  go_wp2_with fail
  go_ret;exact⟨ko n.u.symm,Below.drewN (TF _ _) _⟩
 ·rw[i] at f;rcases oY (fs:=X.aX) (p:=c) with⟨l,m⟩|⟨o,F,l,m⟩
  ·rw[l] at g;have n:Hid (h_ X.aX s c=false):=by show _=_;rw[j.u,d,m]
   clear i d l m j;go_enter func48,ntmps48;go_wp2_with fail
   refine f.u.mono ?_;rintro e k ⟨rfl,rfl⟩;go_wp2_with fail
   refine g.u.mono ?_;rintro e k ⟨rfl,rfl⟩;go_wp2_with fail
   go_quiet (fail)
   go_wp2_with fail
   go_ret;exact⟨ko n.u.symm,Below.drewN (TF _ _) _⟩
  ·rw[l] at g;have n:Hid (h_ X.aX s c=decide (X.aX[r].jc<X.aX[o].jc)):=by show _=_;rw[j.u,d,m]
   obtain rfl:=t (by omega);obtain⟨-,-,G⟩:=A.u r J;obtain⟨-,-,K⟩:=A.u o F;simp only[Ur] at G K;generalize X.aX[r].jc=M at*;generalize X.aX[o].jc=N at*;have O:(r:Int)<(X.aX.length:Int):=by omega
   have L:(o:Int)<(X.aX.length:Int):=by omega
   clear i d l m j;go_enter func48,ntmps48;go_wp2_with fail
   refine f.u.mono ?_;rintro e k ⟨rfl,rfl⟩;go_wp2_with fail
   refine g.u.mono ?_;rintro e k ⟨rfl,rfl⟩;go_wp2_with fail
   go_quiet (fail)
   go_wp2_with fail
   go_ret;exact⟨ko n.u.symm,Below.drewN (TF _ _) _⟩
theorem Tryz.y7:(Tryz.prog.info? 89).map (λa=>(a.zero,a.size,a.bytes))=some (some (.agg #[.string ⟨#[]⟩,.string ⟨#[]⟩,.int .i64 0]),3,40):=by kernel_rfl
theorem oU {wr:ax}(h:(wr.alloc n).drew.grownBy f e):wr.grownBy f e:=(UK wr n e).trans ⟨h.os,h.tape,h.output,h.size,h.block⟩
theorem gw (w:ax)(c:TypeId)(b:List ay)(a:Nat)(u:ay)(h:b[a]?=some u):(w.alloc (.cells b.toArray c)).cell? ((⟨w.heap.size,0,none⟩:Addr).add a)=some u:=by
 obtain⟨d,rfl⟩:=TZ.1 h;have:=(aG.bA w c b).cell a d;have e:(⟨w.heap.size,0,none⟩:Addr).add a=⟨w.heap.size,a,none⟩:=by unfold Addr.add;split<;>simp_all
 rw[e];exact this
theorem Ex (a:List aI)(k:Nat)(h:k<a.length):(a.take (k+1)).foldl Pl.bp []=Pl.bp ((a.take k).foldl Pl.bp []) a[k]:=by rw[TW h,VX];rfl
theorem z7 (b:List aI):∀(a:List aI),(b.foldl Pl.bp a).length<=a.length+b.length:=by
 induction b with
 |nil=>intro a;simp
 |cons f e c=>
  intro a;rw[Ux];have:=c (Pl.bp a f);have d:(Pl.bp a f).length<=a.length+1:=by unfold Pl.bp;split<;>simp
  simp only[TK];omega
theorem B5 (a:List aI)(f:aI):gK (a++[f])=gK a++fV f:=by unfold gK;simp
structure qt (w:ax)(ve vf:ay)(aP:Int)(aC:List aI)(W:ax):Prop where
 rw:RW W (w.heap.size+1) w.heap.size ve vf (.slice none 0 0) ⟨aC,aP,[],0⟩
 aL:Below w.heap.size w W
theorem RW.push {w:ax}{B:Nat}{X:Wd}{Y:ax}{f:aI}(h:RW w B a g k i X)(c:w.grownBy Y k.ownBlock)(j:Y.ownsRow B 89 3 d (X.aX.length+1) (gK X.aX++fV f)):
 RW (Y.setCell ⟨a,0,none⟩ d) B a g d i ⟨X.aX++[f],X.aP,X.aH,X.exit⟩:=by
 have b:=h.lt;have m:=dD h.aX (N:=a) b;refine⟨(h.row.grown c m).set 0 d,?_,?_,b⟩
 ·unfold fR;rw[B5];have:(X.aX++[f]).length=X.aX.length+1:=by simp
  rw[this];exact dQ j (dD j b) 0 _
 ·have l:gj Y B i X.aH:=by
   rcases oy h.aH h.aX (by decide) with e|e
   ·exact WD h.aH c (.inl e)
   ·exact WD h.aH c (.inr e)
  exact dQ l (dD l b) 0 _
variable {m:Int}
theorem qt.push {w:ax}{X Y:ax}{f:aI}(h:qt w i g m c X)(a:X.grownBy Y g.ownBlock)(b:Y.ownsRow (w.heap.size+1) 89 3 d (c.length+1) (gK c++fV f)):
 qt w i d m (c++[f]) (Y.setCell ⟨w.heap.size,0,none⟩ d):=by refine⟨h.rw.push a b,?_⟩;have e:Below w.heap.size w Y:=h.aL.trans ⟨a.os,a.tape,a.output,a.size,λk j=>a.block k (by have:=h.rw.row.lt;omega) (dD h.rw.aX (by omega))⟩;exact e.setCell (p:=⟨w.heap.size,0,none⟩) ak _
theorem qt.aE {w:ax}{X Y:ax}(h:qt w d i m c X)(a:Below X.heap.size X Y):qt w d i m c Y:=⟨h.rw.aE a,h.aL.trans (a.mono (by have:=h.rw.row.lt;omega))⟩
theorem BR (c:List aI)(a g:Option Addr)(cap b l ne ce:Nat)(f:Int)(w:ax)(N:0<c.length->a=some ⟨b,l,none⟩)(Q:dA w b l c)(ag:b<w.heap.size)(hl:c.length<=8388608):
 Calls prog 43 #[.slice a c.length cap,.slice g ne ce,.int .i64 f] w λe L=>e= .returned (.pointer (some ⟨w.heap.size,0,none⟩))/\
  ∃o vc,RW L (w.heap.size+1) w.heap.size (.slice g ne ce) o vc (gQ c f)/\Below w.heap.size w L :=by
 have HR:=aB Q;have ac:=aB N;obtain⟨X,J,G,R,V⟩:=UF Tryz.y7;have W:=aB J;have af:=aB G;have ad:=aB R;have ab:=aB V;have ai:Hid (qt w (.slice g ne ce) (.slice none 0 0) f [] (w.alloc (.cells #[.slice none 0 0,.int .i64 f,.slice g ne ce,.slice none 0 0,.int .i64 0] 99))):=⟨⟨aG.bA w 99 [.slice none 0 0,.int .i64 f,.slice g ne ce,.slice none 0 0,.int .i64 0],fR.nil _ _,gj.nil _ _,V7 _⟩,aj w _⟩;clear Q N J G R V;go_enter func43,ntmps43;go_wp2_with fail
 go_loopw [8] (λv wr=>∃(k:Nat) (o:ay),v= .int .i64 k/\k<=c.length/\Hid (qt w (.slice g ne ce) o f ((c.take k).foldl Pl.bp []) wr)) (λv _=>c.length-aS v)
 case atStart=>exact⟨0,_,rfl,TS _,ai⟩
 case round=>
  obtain⟨k,o,rfl,al,d⟩:=hrel;by_cases T:k<c.length
  ·obtain rfl:=ac.u (by omega);have t:=HR.u.aL d.u.aL ag;obtain⟨s,A,F⟩:=t k T;have q:=aB (Ex c k T);have ar:((c.take k).foldl Pl.bp []).length<=8388608:=by have:=z7 (c.take k) [];simp at this;omega
   obtain⟨av,cv,gv,rfl,x,B,-⟩:=d.u.rw.aX.rd;have i:=aB (λn=>n_ ((c.take k).foldl Pl.bp []) c[k].aJ av cv gv 0 (wr.drewN n) x B (by omega));have Z:=oY (fs:=(c.take k).foldl Pl.bp []) (p:=c[k].aJ);have y:=d.u.rw.row.cell 0 (by simp);have I:=d.u.rw.row.frozen 0;simp only[TG] at y;have ah:=aB d.u.rw.aX;have aa:=d.u.rw.row.lt;generalize H:c[k]=fk at*;generalize (c.take k).foldl Pl.bp []=z at*;unfold aK at s A i;have t1:(k:Int)<(c.length:Int):=by omega
   rcases Z with⟨j,m⟩|⟨ak,hj,j,m⟩
   ·rw[j] at i;have D:Hid ((c.take (k+1)).foldl Pl.bp []=z++[fk]):=by show _=_;rw[q.u];unfold Pl.bp;rw[m];rfl
    clear j m B x t H q;go_wp2_with fail
    go_quiet (first|(go_at_call 45;exact V_ ((i.u _).mono (λ_ _ h=>⟨h.1,h.2.symm⟩))))
    go_wp2_with fail
    have r:=d.u.aE (Below.drewN (TF _ wr) nq);have q0:(wr.drewN nq).cell? ⟨b,l+k*3,none⟩=_:=s;have q1:(wr.drewN nq).cell? ⟨b,l+k*3+1,none⟩=_:=A;have q2:(wr.drewN nq).cell? ⟨b,l+k*3+2,none⟩=_:=F;have d0:(wr.drewN nq).cell? ⟨w.heap.size,0,none⟩=_:=y;have g0:(wr.drewN nq).frozen? ⟨w.heap.size,0,none⟩=_:=I;have K:=aB r.rw.aX;have aq:=r.rw.row.lt;have U:=aB r;clear d r i s A F y I ah aa;generalize wr.drewN nq=W2 at*;go_region_law (refine yc rfl (.tmp 34) (.tmp 39) 22 rfl (w.heap.size+1) 89 X _ 3 40 WO W.u af.u ad.u ab.u rfl (by decide) _ z.length _ (by simp[Act.eval]) (K.u.alloc _) ⟨_,0,none⟩ 1 1 (fV fk) (by simp[Act.eval]) rfl (gw _ _ (fV fk)) (by intro u O;simp[fV] at O;rcases O with rfl|rfl|rfl<;>rfl) (by unfold maxLen;omega) (by omega) (by simp;omega) ?_;intro v1 w1 E P;obtain⟨g1,am,rfl,an,ao⟩:=d_ E (by omega);have M:=aB (oU P);have C:=U.u.rw.row.grown M.u (dD K.u (V7 _));have e0:=C.cell 0 (by simp);have h0:=C.frozen 0;simp only[TG] at e0;have Y:=aB E;clear E P C)
    all_goals go_wp2_with fail
    all_goals go_roundw
    all_goals first
     |exact⟨k+1,_,by go_num,by omega,by rw[D.u];exact U.u.push M.u Y.u⟩
     |(simp only[aS];omega)
   ·rw[j] at i;have D:Hid ((c.take (k+1)).foldl Pl.bp []=z):=by show _=_;rw[q.u];unfold Pl.bp;rw[m];rfl
    have ap:¬(ak:Int)<0:=by omega
    clear j m B x t H q;go_wp2_with fail
    go_quiet (first|(go_at_call 45;exact V_ ((i.u _).mono (λ_ _ h=>⟨h.1,h.2.symm⟩))))
    go_wp2_with fail
    go_roundw
    case rel=>exact⟨k+1,_,by go_num,by omega,by rw[D.u];exact d.u.aE (Below.drewN (TF _ _) _)⟩
    case measure=>simp only[aS];omega
  ·have S:c.take k=c:=Uh (by omega);rw[S] at d;clear S;go_wp2_with fail
   go_ret;exact⟨rfl,_,_,d.u.rw,d.u.aL⟩
theorem aG.Gp {w:ax}{b:Nat}{a:TypeId}(h:aG w b a [d,i,g,k,o]):
 w.cell? ⟨b,0,none⟩=some d/\w.cell? ⟨b,1,none⟩=some i/\w.cell? ⟨b,2,none⟩=some g/\w.cell? ⟨b,3,none⟩=some k/\w.cell? ⟨b,4,none⟩=some o:=by unfold aG at h;simp[World.cell?,h]
theorem Qc {f:aI}(h:Pl.look c f.aJ=none):gm c f=c++[f]:=by
 induction c with
 |nil=>rfl
 |cons e d a=>
  unfold Pl.look at h;rw[UT] at h;split at h
  ·cases h
  ·rename_i b;unfold gm;rw[TJ (by rw[b];decide),a h];rfl
theorem Qg {f:aI}:∀{k:Nat} (a:k<c.length),c[k].aJ=f.aJ->(∀b (h:b<k),c[b].aJ≠f.aJ)->gm c f=c.set k f:=by
 induction c with
 |nil=>intro k a;simp at a
 |cons l j g=>
  intro k a e d;unfold gm;cases k with
  |zero=>rw[TP (by simpa using e)];rfl
  |succ k=>rw[TJ (by simpa using d 0 (by omega)),VM,g (k:=k) (by simpa using a) (by simpa using e) (λb i=>by simpa using d (b+1) (by omega))]
theorem Ry {fs:List aI}{f:aI}:(iG fs f.aJ= -1/\gm fs f=fs++[f])\/∃(k:Nat) (_:k<fs.length),iG fs f.aJ=k/\gm fs f=fs.set k f:=by
 unfold iG;cases e:nZ fs f.aJ with
 |none=>left;refine⟨rfl,Qc ?_⟩;unfold nZ at e;unfold Pl.look;rw[UO] at e;rw[Vm];intro x h;simpa using e x h
 |some k=>right;unfold nZ at e;rw[Up] at e;obtain⟨a,g,c⟩:=e;exact⟨k,a,rfl,Qg a (by simpa using g) (λd b=>by simpa using c d b)⟩
theorem EV:∀(c S:List ag),c.Nodup->(∀b∈c,b∈S)->c.length<=S.length
 |[],_,_,_=>TS _
 |a::k,S,h,f=>by obtain⟨j,i⟩:=Wv.1 h;have g:=f a (by simp);have:=EV k (S.erase a) i (λb d=>(XL (show b≠a from λe=>j (by rw[<-e];exact d))).2 (f b (by simp[d])));rw[ZY g] at this;have:0<S.length:=aan g;simp only[TK];omega
def Fit (S:List ag)(a:List aI):Prop:=oG a/\∀b∈a.map (·.aJ),b∈S
theorem Fit.len {S:List ag}(h:Fit S c):c.length<=S.length:=by have:=EV _ S h.1 h.2;simpa using this
theorem Fit.put {S:List ag}{f:aI}(h:Fit S c)(d:f.aJ∈S):Fit S (gm c f):=by
 refine⟨Of h.1,λb a=> ?_⟩;rw[EU] at a;split at a
 ·exact h.2 b a
 ·simp only[T4,TL] at a;rcases a with a|rfl
  ·exact h.2 b a
  ·exact d
theorem Fit.add {S:List ag}{f:aI}(h:Fit S c)(d:f.aJ∈S):Fit S (Pl.bp c f):=by
 refine⟨Ob h.1,λb a=> ?_⟩;unfold Pl.bp at a;split at a
 ·exact h.2 b a
 ·simp only[T',Ug,VL,T4,TL] at a;rcases a with a|rfl
  ·exact h.2 b a
  ·exact d
def jn (w W:ax):Prop:=∀(k:Nat) (a:Array ay) (e:TypeId) (b:Nat×Nat),w.heap[k]?=some (Obj.cells a e b)->e≠89->e≠9->e≠99->W.heap[k]?=w.heap[k]?
theorem jn.refl (w:ax):jn w w:=λ_ _ _ _ _ _ _ _=>rfl
theorem jn.cF {w Y Z:ax}(h:jn w Y)(b:Option Nat)(n:∀k,k<Y.heap.size->some k≠b->Z.heap[k]?=Y.heap[k]?)(p:∀k,b=some k->∃g e f,Y.heap[k]?=some (.cells g e f)/\(e=89\/e=9\/e=99)):jn w Z:=λk g e f d j i m=>by
 have c:=h k g e f d j i m;have q:k<Y.heap.size:=by rw[d] at c;exact(TN.1 c).1
 rw[n k q (λo=> ?_),c];obtain⟨r,s,t,l,a⟩:=p k o.symm;rw[c,d] at l;cases l;rcases a with a|a|a
 ·exact j a
 ·exact i a
 ·exact m a
theorem jn.aE {w Y Z:ax}(h:jn w Y)(a:Below Y.heap.size Y Z):jn w Z:=h.cF none (λk b _=>a.block k b) (λ_ e=>by cases e)
theorem eN {w:ax}{B e size n:Nat}{v:ay}(h:w.ownsRow B e size v n l):∀k,v.ownBlock=some k->∃a c,w.heap[k]?=some (.cells a e c):=by
 intro k b;rcases h.2 with⟨rfl,_⟩|⟨f,cap,a,rfl,_,d,_⟩
 ·cases b
 ·cases b;exact⟨a,_,d⟩
theorem jn.set {w Y:ax}(h:jn w Y){b:Nat}(g:∃f e d,Y.heap[b]?=some (.cells f e d)/\(e=89\/e=9\/e=99))(a:Nat)(u:ay):jn w (Y.setCell ⟨b,a,none⟩ u):=h.cF (some b) (λk _ c=>T5 Y ⟨b,a,none⟩ u k (λe=>c (by rw[show k=b from e]))) (λk e=>by cases e;exact g)
theorem jn.bI {w Y Z:ax}{B e size n:Nat}{v:ay}(h:jn w Y)(i:Y.ownsRow B e size v n l)(d:e=89\/e=9\/e=99)(c:Y.grownBy Z v.ownBlock):jn w Z:=h.cF v.ownBlock c.block (λk a=>by obtain⟨f,b,g⟩:=eN i k a;exact⟨f,e,b,g,d⟩)
theorem RW.eW {w:ax}{B:Nat}{X:Wd}(h:RW w B a d i g X):∃c e b,w.heap[a]?=some (.cells c e b)/\(e=89\/e=9\/e=99):=⟨_,_,_,h.row,.inr (.inr rfl)⟩
structure gZ (w:ax)(B bx:Nat)(ve vf vc:ay)(X:Wd)(W:ax):Prop where
 rw:RW W B bx ve vf vc X
 aL:Below bx w W
 kept:jn w W
theorem gZ.aE {w:ax}{B:Nat}{vc:ay}{X:Wd}{Y Z:ax}(h:gZ w B a d i vc X Y)(b:Below Y.heap.size Y Z):gZ w B a d i vc X Z:=⟨h.rw.aE b,h.aL.trans (b.mono (VA h.rw.row.lt)),h.kept.aE b⟩
theorem DX {w X Y:ax}{B:Nat}{e size n:Nat}{v:ay}(h:Below a w X)(f:a<X.heap.size)(g:a<B)(c:X.ownsRow B e size v n l)(b:X.grownBy Y v.ownBlock):Below a w Y:=h.trans ⟨b.os,b.tape,b.output,b.size,λk d=>b.block k (by omega) (dD c (by omega))⟩
theorem gZ.RZ {w:ax}{B:Nat}{X:Wd}{Y Z:ax}{f:aI}(h:gZ w B a i g k X Y)(b:Y.grownBy Z g.ownBlock)(c:Z.ownsRow B 89 3 d (X.aX.length+1) (gK X.aX++fV f)):
 gZ w B a i d k ⟨X.aX++[f],X.aP,X.aH,X.exit⟩ (Z.setCell ⟨a,0,none⟩ d):=
 ⟨h.rw.push b c,(DX h.aL h.rw.row.lt h.rw.lt h.rw.aX b).setCell (p:=⟨a,0,none⟩) ak _,(h.kept.bI h.rw.aX (.inl rfl) b).set ⟨_,_,_,h.rw.row.grown b (dD h.rw.aX h.rw.lt),.inr (.inr rfl)⟩ _ _⟩
theorem gZ.oD {w:ax}{B cap g:Nat}{X:Wd}{Y:ax}(h:gZ w B a i (.slice (some ⟨g,0,none⟩) X.aX.length cap) d X Y)(k:Nat)(n:k<X.aX.length)(f:aI):
 gZ w B a i (.slice (some ⟨g,0,none⟩) X.aX.length cap) d ⟨X.aX.set k f,X.aP,X.aH,X.exit⟩ (((Y.setCell ⟨g,k*3,none⟩ (aK f.aJ)).setCell ⟨g,k*3+1,none⟩ (aK f.aT)).setCell ⟨g,k*3+2,none⟩ (.int .i64 f.jc)):=by
 have q:=h.rw.lt;have x:=(h.rw.aX.lt g rfl).1;have v:some g=(Value.slice (some ⟨g,0,none⟩) X.aX.length cap).ownBlock:=rfl;have z:∀b u,∀Z:ax,gj Z B d X.aH->(fR Z B (.slice (some ⟨g,0,none⟩) X.aX.length cap) X.aX\/True)->some g≠d.ownBlock->gj (Z.setCell ⟨g,b,none⟩ u) B d X.aH:=λb u Z m _ c=>dQ m c b u;have c:some g≠d.ownBlock:=by
  rcases oy h.rw.aH h.rw.aX (by decide) with e|e
  ·rw[e];simp
  ·exact λl=>e (by rw[<-l];rfl)
 have y:(X.aX.set k f).length=X.aX.length:=by simp
 refine⟨⟨((h.rw.row.eH (by omega) _ _).eH (by omega) _ _).eH (by omega) _ _,?_,dQ (dQ (dQ h.rw.aH c _ _) c _ _) c _ _,q⟩,
  ((h.aL.setCell (p:=⟨g,k*3,none⟩) (by show a<=g;omega) _).setCell (p:=⟨g,k*3+1,none⟩) (by show a<=g;omega) _).setCell (p:=⟨g,k*3+2,none⟩) (by show a<=g;omega) _,?_⟩
 ·exact h.rw.aX.set k n f
 ·refine h.kept.cF (some g) (λb _ s=> ?_) (λb e=>by cases e;obtain⟨r,o,t⟩:=eN h.rw.aX g rfl;exact⟨r,_,o,t,.inl rfl⟩);have j:b≠g:=λe=>s (by rw[e]);rw[T5 _ ⟨g,k*3+2,none⟩ _ b j,T5 _ ⟨g,k*3+1,none⟩ _ b j,T5 _ ⟨g,k*3,none⟩ _ b j]
theorem gZ.SE {w:ax}{B:Nat}{X:Wd}{Y Z:ax}{c:ag}(h:gZ w B a g i k X Y)(b:Y.grownBy Z k.ownBlock)(l:Z.ownsRow B 9 1 d (X.aH.length+1) (X.aH.map aK++[aK c])):
 gZ w B a g i d ⟨X.aX,X.aP,X.aH++[c],X.exit⟩ (Z.setCell ⟨a,3,none⟩ d):=by
 have f:=h.rw.lt;have j:=dD h.rw.aH (N:=a) f;refine⟨⟨(h.rw.row.grown b j).set 3 d,?_,?_,f⟩,(DX h.aL h.rw.row.lt f h.rw.aH b).setCell (p:=⟨a,3,none⟩) ak _,(h.kept.bI h.rw.aH (.inr (.inl rfl)) b).set ⟨_,_,_,h.rw.row.grown b j,.inr (.inr rfl)⟩ _ _⟩
 ·have m:fR Z B i X.aX:=by
   rcases oy h.rw.aX h.rw.aH (by decide) with e|e
   ·exact WD h.rw.aX b (.inl e)
   ·exact WD h.rw.aX b (.inr e)
  exact dQ m (dD m f) 3 _
 ·unfold gj;simp only[TE,TK,T1,T',Ug,VL];exact dQ l (dD l f) 3 _
theorem gZ.aP {w:ax}{B:Nat}{X:Wd}{Y:ax}(h:gZ w B a d i g X Y)(z:Int):gZ w B a d i g ⟨X.aX,z,X.aH,X.exit⟩ (Y.setCell ⟨a,1,none⟩ (.int .i64 z)):=⟨⟨h.rw.row.set 1 _,dQ h.rw.aX (dD h.rw.aX h.rw.lt) 1 _,dQ h.rw.aH (dD h.rw.aH h.rw.lt) 1 _,h.rw.lt⟩,h.aL.setCell (p:=⟨a,1,none⟩) ak _,h.kept.set h.rw.eW _ _⟩
theorem gZ.exit {w:ax}{B:Nat}{X:Wd}{Y:ax}(h:gZ w B a d i g X Y)(z:Int):gZ w B a d i g ⟨X.aX,X.aP,X.aH,z⟩ (Y.setCell ⟨a,4,none⟩ (.int .i64 z)):=⟨⟨h.rw.row.set 4 _,dQ h.rw.aX (dD h.rw.aX h.rw.lt) 4 _,dQ h.rw.aH (dD h.rw.aH h.rw.lt) 4 _,h.rw.lt⟩,h.aL.setCell (p:=⟨a,4,none⟩) ak _,h.kept.set h.rw.eW _ _⟩
theorem RW.cells {w:ax}{B:Nat}{X:Wd}(h:RW w B a d i g X):w.cell? ⟨a,0,none⟩=some i/\w.cell? ⟨a,1,none⟩=some (.int .i64 X.aP)/\w.cell? ⟨a,2,none⟩=some d/\w.cell? ⟨a,3,none⟩=some g/\w.cell? ⟨a,4,none⟩=some (.int .i64 X.exit):=h.row.Gp
