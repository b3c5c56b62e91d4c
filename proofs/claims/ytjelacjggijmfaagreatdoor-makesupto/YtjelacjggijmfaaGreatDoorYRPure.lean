/- . -/
import Derived.Test.YtjelacjggijmfaaGreatDoorYSP2
import Derived.Lib.IndexBytes
import Derived.Deep.RegionLaw
set_option linter.all false
set_option maxHeartbeats 400000
namespace Go.Proofs.YtjelacjggijmfaaGreatDoor
open Pl Mk Cp Proofs.Tryz
open RowKit
variable {i j o p:Nat}{k:aj}{W:ay}
namespace Pl
open RowKit
structure aJ where
 aL:Bs
 aU:Bs
 jK:Int
abbrev fy:=List aJ
structure bu where
 dg:Bs
 cE:fy
 exit:Int
abbrev ga:=List bu
structure Wd where
 aW:fy
 aQ:Int
 aI:List Bs
 exit:Int
def look(b:fy)(a:Bs):Option aJ:=b.find? (λf=>f.aL==a)
def fR:fy->aJ->fy
 |[],f=>[f]
 |a::b,f=>if a.aL==f.aL then f::b else a::fR b f
def bA(a:fy)(f:aJ):fy:=if(look a f.aL).isSome then a else a++[f]
def fK(a:fy)(b:Int):Wd:=⟨a.foldl bA [],b,[],0⟩
def jh(a:Int)(f:aJ):aJ:=⟨f.aL,f.aU,a⟩
def eI(a:ga)(X:Wd)(c:Bs):Wd:=
 match a.find? (λe=>e.dg==c) with
 |none=>⟨X.aW,wrap64 (X.aQ+1),X.aI++[c],X.exit⟩
 |some e=>⟨e.cE.foldl (λb f=>fR b (jh (wrap64 (X.aQ+1)) f)) X.aW,wrap64 (X.aQ+1),X.aI++[c],e.exit⟩
def h_(c:fy)(s d:Bs):Bool:=match look c s,look c d with|some a,some b=>decide (a.jK<b.jK)|_,_=>false
def dB(d:List Bs)(e:ga)(a:gO)(b:jb)(c:Nat->Bool)(X:Wd):Nat×jb×(Nat->Bool)×Wd:=
 if a.op=1 then(a.next,b++[a.first==1],c,X)
 else if a.op=2 then(a.next,b++[(look X.aW (d.getD a.first [])).isNone],c,X)
 else if a.op=3 then(a.next,b++[h_ X.aW (d.getD a.first []) (d.getD a.pN [])],c,X)
 else if a.op=4 then(a.next,b++[c a.first],c,X)
 else if a.op=5 then(a.next,b.dropLast.dropLast++[b.getLast?.getD false||b.dropLast.getLast?.getD false],c,X)
 else if a.op=6 then(if b.getLast?.getD false then a.next else a.next+a.first,b.dropLast,c,X)
 else if a.op=7 then(a.next,b,c,eI e X (d.getD a.first []))
 else(a.next,b,λq=>if q=a.first then true else c q,X)
def pX(c:Bs)(b:List Bs)(a:ga):Nat->Nat->jb->(Nat->Bool)->Wd->Wd
 |0,_,_,_,X=>X
 |f+1,d,g,e,X=>if d<c.length/\X.exit=0 then
  pX c b a f (dB b a (bH c d) g e X).1 (dB b a (bH c d) g e X).2.1 (dB b a (bH c d) g e X).2.2.1 (dB b a (bH c d) g e X).2.2.2 else X
def TI{d:List Bs}{b:ga}{g:jb}{e:Nat->Bool}{X:Wd}(h:¬(j<k.length/\X.exit=0)):pX k d b i j g e X=X:=by
 cases i with
 |zero=>rfl|succ i=>rw[pX,Yb h]
def jL(f:aJ):fy->fy
 |[]=>[f]
 |a::b=>if f.aL<a.aL then f::a::b else a::jL f b
def eB(b:fy):fy:=b.foldl (λa f=>jL f a) []
def NG(a:fy)(f:aJ)(q:Bs):look (a++[f]) q=(look a q).or (if f.aL=q then some f else none):=by
 unfold look;rw[List.find?_append];congr 1;by_cases h:f.aL=q
 ·simp[h]
 simp[h]
def Ti{a:fy}{f:aJ}{q:Bs}:look (bA a f) q=(look a q).or (if f.aL=q then some f else none):=by
 unfold bA;split
 ·rename_i h;by_cases e:f.aL=q
  ·subst e;cases k:look a f.aL with
   |none=>rw[k]at h;cases h
   |some x=>rfl
  rw[Yb e,Option.or_none]
 exact NG a f q
def nJ(a:fy):Prop:=(a.map (·.aL)).Nodup
variable {c:fy}
def yo:look c k=none↔k∉c.map (·.aL):=by unfold look;rw[ZW];simp
def RZ{f:aJ}(h:nJ c):nJ (bA c f):=by
 unfold bA;split
 ·exact h
 rename_i k;have:look c f.aL=none:=by
  cases e:look c f.aL with
  |none=>rfl|some x=>rw[e]at k;exact absurd rfl k
 rw[yo]at this;unfold nJ at*;rw[Yy,ZK];exact⟨h,by simp,λa g b d=>by simp at d;subst d;exact λe=>this (e▸g)⟩
def Hu{a:fy}{f:aJ}:(fR a f).map (·.aL)=if f.aL∈a.map (·.aL) then a.map (·.aL) else a.map (·.aL)++[f.aL]:=by
 induction a with
 |nil=>simp[fR]
 |cons c d h=>
  unfold fR;by_cases b:c.aL=f.aL
  ·rw[Yd (by simpa using b)];simp[b]
  rw[Yb (by simpa using b),YE,h];have g :¬f.aL=c.aL:=λe=>b e.symm;by_cases k:f.aL∈d.map (·.aL)
  ·rw[Yd k,Yd (by simp only[YE,YD];exact .inr k)];rfl
  rw[Yb k,Yb (by simp only[YE,YD];exact λe=>e.elim g k)];rfl
def R6{f:aJ}(h:nJ c):nJ (fR c f):=by
 unfold nJ at*;rw[Hu];split
 ·exact h
 rename_i k;rw[ZK];exact⟨h,by simp,λa g b d=>by simp at d;subst d;exact λe=>k (e▸g)⟩
end Pl
def Eh(s a:aA)(w:ay):
 Calls prog 210 #[.string s,.string a] w λe b=>e=.returned (.bool (decide (a.size<=s.size)&&((s.extract 0 a.size).toList==a.toList)))/\w=b:=by
 by_cases h:a.size<=s.size
 ·go_in;go_wp2
  all_goals go_ret
  all_goals exact⟨kz (by simp[h]),rfl⟩
 go_in;go_wp2
 all_goals go_ret
 all_goals exact⟨kz (by simp[h]),rfl⟩
def MA(s a:aA)(w:ay)(h:a.size<=s.size)(d:((s.extract 0 a.size).toList==a.toList)=true):
 Calls prog 126 #[.string s,.string a] w λe b=>e=.returned (.tuple #[.string (s.extract a.size s.size),.bool true])/\w=b:=by
 have f:Calls prog 167 #[.string s,.string a] w λe b=>e=.returned (.tuple #[.string (s.extract a.size s.size),.bool true])/\w=b:=by
  go_in;go_wp2_with fail
  refine(Eh s a w).mono ?_;rintro e c⟨rfl,rfl⟩;rw[d,Y6 h];go_wp2_with fail
  all_goals go_ret2
  all_goals exact⟨rfl,rfl⟩
 go_in;go_wp2_with fail
 refine f.mono ?_;rintro e c⟨rfl,rfl⟩;go_wp2_with fail
 all_goals go_ret2
 all_goals exact⟨rfl,rfl⟩
def M4(s a:aA)(w:ay)(d:(decide (a.size<=s.size)&&((s.extract 0 a.size).toList==a.toList))=false):
 Calls prog 126 #[.string s,.string a] w λe b=>e=.returned (.tuple #[.string s,.bool false])/\w=b:=by
 have f:Calls prog 167 #[.string s,.string a] w λe b=>e=.returned (.tuple #[.string s,.bool false])/\w=b:=by
  go_in;go_wp2_with fail
  refine(Eh s a w).mono ?_;rintro e c⟨rfl,rfl⟩;rw[d];go_wp2_with fail
  all_goals go_ret2
  all_goals exact⟨rfl,rfl⟩
 go_in;go_wp2_with fail
 refine f.mono ?_;rintro e c⟨rfl,rfl⟩;go_wp2_with fail
 all_goals go_ret2
 all_goals exact⟨rfl,rfl⟩
def M_(s:aA)(w:ay)(h:2<=s.size):
 θ 168 #[.string (s.extract 0 2)] w (ι (two s.data.toList 0:Nat)):=OG s 0 2 w ax (by omega)
def zT(s:aA)(w:ay)(h:2<=s.size):
 Calls prog 127 #[.string s] w λe a=>e=.returned (.tuple #[ι (two s.data.toList 0:Nat),.string (s.extract 2 s.size),.bool true])/\μ w a:=by
 have b:=λw=>M_ s w h;go_in;go_wp2
 go_region_with (go_at_call 168;refine(b _).mono ?_;rintro e c⟨rfl,rfl⟩)
 all_goals go_wp2
 all_goals go_ret3
 all_goals exact⟨rfl,(X5 _ w).drew⟩
def Es(s:aA)(w:ay)(h:s.size<2):
 Calls prog 127 #[.string s] w λe a=>e=.returned (.tuple #[ι 0,.string ⟨#[]⟩,.bool false])/\w=a:=by
 go_in;go_wp2
 all_goals go_ret3
 all_goals exact⟨rfl,rfl⟩
def S4(a:hU)(k:Nat):(((⟨a.toArray⟩:aA).extract 2 (⟨a.toArray⟩:aA).size).extract 0 k)=⟨((a.drop 2).take k).toArray⟩:=by apply ij;rw[tv,ZQ];simp
def UF(a:hU)(k:Nat):(((⟨a.toArray⟩:aA).extract 2 (⟨a.toArray⟩:aA).size).extract k ((⟨a.toArray⟩:aA).extract 2 (⟨a.toArray⟩:aA).size).size)=⟨(a.drop (2+k)).toArray⟩:=by apply ij;rw[ZQ,ZQ];simp
def Me(a:hU)(w:ay)(h:2<=a.length/\2+two a 0<=a.length)(f:a.length<=8388608):
 Calls prog 128 #[.string ⟨a.toArray⟩] w λe g=>e=.returned (.tuple #[.string ⟨((a.drop 2).take (two a 0)).toArray⟩,.string ⟨(a.drop (2+two a 0)).toArray⟩,.bool true])/\μ w g:=by
 have m:=aC (S4 a (two a 0));have n:=aC (UF a (two a 0));have i:((⟨a.toArray⟩:aA).extract 2 (⟨a.toArray⟩:aA).size).size=a.length-2:=by rw[N9,ea];omega
 have d:2<=(⟨a.toArray⟩:aA).size:=by rw[ea];exact h.1
 have b:=zT ⟨a.toArray⟩ w d;rw[qm]at b;generalize two a 0=k at*;have c:=b;generalize j:((⟨a.toArray⟩:aA).extract 2 (⟨a.toArray⟩:aA).size)=r at*;have:k<=r.size:=by omega
 clear j d f h i b;generalize (⟨a.toArray⟩:aA)=s at*;have b:=c;clear c;go_in;go_wp2_with fail
 refine b.mono ?_;rintro e o⟨rfl,l⟩;go_wp2_with fail
 go_region
 all_goals go_wp2_with fail
 all_goals go_ret3
 all_goals refine⟨?_,l.drew⟩
 all_goals(rw [<-m,<-n];rfl)
def Mn(a:hU)(w:ay)(h:¬(2<=a.length/\2+two a 0<=a.length))(g:a.length<=8388608):
 Calls prog 128 #[.string ⟨a.toArray⟩] w λe j=>e=.returned (.tuple #[.string ⟨#[]⟩,.string ⟨#[]⟩,.bool false])/\μ w j:=by
 by_cases f:2<=a.length
 ·have:((⟨a.toArray⟩:aA).extract 2 (⟨a.toArray⟩:aA).size).size=a.length-2:=by rw[N9,ea];omega
  have c:2<=(⟨a.toArray⟩:aA).size:=by rw[ea];exact f
  have b:=zT ⟨a.toArray⟩ w c;rw[qm]at b
  generalize two a 0=k at*;have d:=b;generalize m:((⟨a.toArray⟩:aA).extract 2 (⟨a.toArray⟩:aA).size)=r at*
  generalize (⟨a.toArray⟩:aA)=s at*;have b:=d;go_in;go_wp2_with fail
  refine b.mono ?_;rintro e i⟨rfl,o⟩;go_wp2_with fail
  all_goals go_ret3
  all_goals exact⟨rfl,o⟩
 have c:(⟨a.toArray⟩:aA).size<2:=by rw[ea];omega
 generalize (⟨a.toArray⟩:aA)=s at*;go_in;go_wp2_with fail
 refine(Es s w c).mono ?_;rintro e i⟨rfl,rfl⟩;go_wp2_with fail
 all_goals go_ret3
 all_goals exact⟨rfl,X5 _ _⟩
def D_{h:Program}{o:kt}{b:Oper}{a:Act}{K:Act->ay->Prop}{Q:Exit->Act->ay->Prop}{E:Prop}(A:b.guard=none)(s x:Operand)(j:TypeId)(B:b.op=Op.call {callee:=Callee.builtin Builtin.append,args:= #[s,x],argTypes:= #[j,j]})(w:Nat)(e:TypeId)(g:TypeInfo)(z:az)(size bytes:Nat)(F:h.underlying j=some (.slice e))(t:h.info? e=some g)(O:g.zero=some z)(D:g.size=size)(H:g.bytes=bytes)(U:z.cells.size=size)(G:0<size)(v:az)(n:Nat)(l:f')(P:a.eval s=v)(q:W.ownsRow w e size v n l)(k:Addr)(m c:Nat)(f:f')(R:a.eval x=.slice (some k) m c)(S:f.length=m*size)(V:∀p u,f[p]?=some u->W.cell? (k.add p)=some u)(L:∀u∈f,u.oneCell' =true)(r:n+m<=maxLen)(N:(n+m)*bytes<=140737488355328)(C:w<=W.heap.size)(I:∀i d,d.ownsRow w e size i (n+m) (l++f)->W.grownBy d v.ownBlock->K (a.put b.dst i) d):
 if Region.wanted b (yielded o a.tmps)=true then Oper.wp h b a W K Q else E:=by
 have J:Region.wanted b (yielded o a.tmps)=true:=by simp[Region.wanted,A]
 rw[Yd J];have⟨i,d,M,y,T,_⟩:=run_append_own (P:=h) W w j b.type e g z size bytes F t O D H U G v n l q k m c f S V L r N C;unfold Oper.wp;simp[execOp,B,resolve,invoke,builtin,P,R,M,Result.andThen];exact I i d y T
def dv{v:az}{d:f'}(h:W.ownsRow i j o v p d)(g:0<p):∃a cap,v=ξ a p cap/\i<=a/\a<W.heap.size:=by
 obtain⟨c,b⟩|⟨a,cap,l,c,b,f,B,n,m,k⟩:=h.2
 ·omega
 exact⟨a,cap,c,b,(X8.1 f).1⟩




