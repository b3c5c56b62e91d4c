/- . -/
import Derived.Test.YtjelacjggijmfaaGreatDoorYSP2
import Derived.Shelf.Slices.Equal
import Derived.Shelf.Small.Wraps
import Derived.Shelf.SortM.Plain
import Derived.Shelf.SortM.SortNone
import Derived.Shelf.Strings.BuilderK
import Derived.Shelf.Strings.FieldsFuncGrows
import Derived.Shelf.Strings.OnBuilder
import Derived.Shelf.Strings.Replace
import Derived.Shelf.Strings.Shaped
import Derived.Shelf.Strings.SlTrimAscii
import Derived.Test.YtjelacjggijmfaaGreatDoorProg
import Derived.Lib.SpaceUEq
set_option linter.all false
set_option maxHeartbeats 2000000
set_option maxRecDepth 100000
namespace Go.Proofs.YtjelacjggijmfaaGreatDoor
open Pl Mk Cp Proofs.Tryz
variable {d a t:aj}{i j:ay}{c g f e:az}{m:fv}{k n:Nat}{l:UInt8}{b h:aA}{o:Int}{y:UInt8->jj}
section
open Shelf
def Tryz.iV:Go.Shelf.Ren:=⟨fun|99=>158|100=>123|102=>207|103=>126|104=>291|119=>279|120=>277|137=>278|138=>266|143=>186|144=>140|145=>160|151=>247|152=>251|153=>213|154=>272|155=>235|156=>144|160=>147|161=>250|162=>209|165=>191|166=>75|167=>78|169=>79|170=>243|193=>228|195=>286|197=>246|206=>210|207=>165|209=>249|210=>167|211=>293|217=>268|218=>287|219=>234|220=>211|224=>270|225=>269|226=>252|227=>201|228=>245|229=>216|231=>199|232=>200|233=>202|234=>203|235=>204|236=>205|240=>122|241=>242|260=>276|266=>289|267=>271|271=>248|276=>164|277=>274|314=>290|n=>n,fun|0=>0|3=>3|4=>4|5=>5|9=>9|20=>20|21=>21|24=>143|31=>30|37=>126|40=>330|46=>335|51=>365|59=>245|70=>156|72=>158|75=>166|76=>167|80=>112|105=>350|116=>324|117=>325|119=>383|124=>328|127=>241|138=>385|139=>386|146=>381|152=>354|154=>356|164=>292|n=>n,fun|1=>0|3=>1|4=>2|n=>n⟩
def Tryz.VZ:Go.Proofs.Lays.n166 prog Tryz.iV:=by constructor<;>first|kernel_rfl|(intro;kernel_rfl)
def Tryz.VN:Go.Proofs.Lays.n167 prog Tryz.iV:=by constructor<;>first|kernel_rfl|(intro;kernel_rfl)
def Tryz.VS:Go.Proofs.Lays.n169 prog Tryz.iV:=by constructor<;>first|kernel_rfl|(intro;kernel_rfl)
def Tryz.KF:Go.Proofs.Lays.n156 prog Tryz.iV:=by constructor<;>first|kernel_rfl|(intro;kernel_rfl)
def Tryz.VU:Go.Proofs.Lays.n160 prog Tryz.iV:=by constructor<;>first|kernel_rfl|(intro;kernel_rfl)
def Tryz.VB:Go.Proofs.Lays.n161 prog Tryz.iV:=by constructor<;>first|kernel_rfl|(intro;kernel_rfl)
def Tryz.VV:Go.Proofs.Lays.n162 prog Tryz.iV:=by constructor<;>first|kernel_rfl|(intro;kernel_rfl)
def Tryz.V7:Go.Proofs.Lays.n145 prog Tryz.iV:=by constructor<;>first|kernel_rfl|(intro;kernel_rfl)
def Tryz.Kt:Go.Proofs.Lays.n144 prog Tryz.iV:=by constructor<;>first|kernel_rfl|(intro;kernel_rfl)
def Tryz.VY:Go.Proofs.Lays.n138 prog Tryz.iV:=by constructor<;>first|kernel_rfl|(intro;kernel_rfl)
def Tryz.Vv:Go.Proofs.Lays.n104 prog Tryz.iV:=by constructor<;>first|kernel_rfl|(intro;kernel_rfl)
def Tryz.V8:Go.Proofs.Lays.n155 prog Tryz.iV:=by constructor<;>first|kernel_rfl|(intro;kernel_rfl)
def Tryz.VR:Go.Proofs.Lays.n193 prog Tryz.iV:=by constructor<;>first|kernel_rfl|(intro;kernel_rfl)
def Tryz.Wx:Go.Proofs.Lays.n99 prog Tryz.iV:=by constructor<;>first|kernel_rfl|(intro;kernel_rfl)
def Tryz.V0:Go.Proofs.Lays.n100 prog Tryz.iV:=by constructor<;>first|kernel_rfl|(intro;kernel_rfl)
def Tryz.Wb:Go.Proofs.Lays.n102 prog Tryz.iV:=by constructor<;>first|kernel_rfl|(intro;kernel_rfl)
def Tryz.Kj:Go.Proofs.Lays.n103 prog Tryz.iV:=by constructor<;>first|kernel_rfl|(intro;kernel_rfl)
def Tryz.VO:Go.Proofs.Lays.n152 prog Tryz.iV:=by constructor<;>first|kernel_rfl|(intro;kernel_rfl)
def Tryz.VF:Go.Proofs.Lays.n153 prog Tryz.iV:=by constructor<;>first|kernel_rfl|(intro;kernel_rfl)
def Tryz.V9:Go.Proofs.Lays.n229 prog Tryz.iV:=by constructor<;>first|kernel_rfl|(intro;kernel_rfl)
def Tryz.VK:Go.Proofs.Lays.n137 prog Tryz.iV:=by constructor<;>first|kernel_rfl|(intro;kernel_rfl)
def Tryz.Kx:Go.Proofs.Lays.n119 prog Tryz.iV:=by constructor<;>first|kernel_rfl|(intro;kernel_rfl)
def Tryz.vI:Builder.Extra prog Tryz.iV:=by constructor;constructor;all_goals first|kernel_rfl|(intro;kernel_rfl)|decide
end
section
open RowKit
structure Bd(B b:Nat)(aE:hU)(w:ay):Prop where
 wh:Lib.IsBuilderF 319 5 B b (Lib.byteCells aE) w
 nil:aE=[]->∃p,w.heap[b]?=some (.cells #[p,ς] 319 (0,0))
def Bd.nE(w:ay):Bd w.heap.size w.heap.size [] (w.alloc (.cells #[.pointer none,ς] 319)):=⟨Lib.IsBuilderF.of (Lib.fresh_isBuilder _ _ w),λ_=>⟨_,aF.bq w _ [.pointer none,ς]⟩⟩
def Bd.lt{B b:Nat}{w:ay}(h:Bd B b d w):b<w.heap.size:=by rcases h.wh with h|h<;>exact h.lt
def Bd.kept{B b:Nat}{w:ay}(h:Bd B b d w)(l:∀(k:Nat) (c:hZ) (t:TypeId) (f:Nat×Nat),w.heap[k]?=some (Obj.cells c t f)->i.heap[k]?=some (Obj.cells c t f)):Bd B b d i:=by
 have o:∀j,Lib.BuilderAtF 319 5 B b j (Lib.byteCells d) w->Lib.BuilderAtF 319 5 B b j (Lib.byteCells d) i:=by
  rintro j⟨y,v,p,⟨u,n⟩,x⟩;refine⟨y,v,l _ _ _ _ p,⟨u,?_⟩,x⟩;obtain n|⟨g,q,r,A,C,m,z,a⟩:=n
  ·exact .inl n
  exact .inr ⟨g,q,r,A,C,m,l _ _ _ _ z,a⟩
 refine⟨?_,λe=>?_⟩
 ·obtain h|h:=h.wh
  ·exact .inl (o _ h)
  exact .inr (o _ h)
 have⟨j,s⟩:=h.nil e;exact⟨j,l _ _ _ _ s⟩
def Bd.aD(h:Bd k n d j)(e:μ j i):Bd k n d i:=Bd.kept h (λB _ _ _ c=>(e.block B (X8.1 c).1).trans c)
def EA:(Tryz.prog.info? 158).map (·.size)=some 2:=by kernel_rfl
def Ro:(Tryz.prog.info? 5).map (λb=>(b.zero,b.size,b.bytes))=some (some (.int .u8 0),1,1):=by kernel_rfl
def OL:Tryz.prog.cellsOf 5=1:=by kernel_rfl
def MK:liesAt prog Tryz.prog.depth 319 (2/Tryz.prog.cellsOf 319) 0 158 1=true:=by kernel_rfl
def Mq(b:Nat)(w:ay)(h:w.χ b 0=some (.pointer none))(c:w.shape? b=some (319,2))(j:w.frozen? (η b 0)=false):
 Calls prog 122 #[π b] w λe f=>e=.returned (.tuple #[])/\f =w.ψ b 0 (π b):=by
 have⟨i,d,g⟩:=afg.1 EA;go_in;go_wp2
 rw[Lib.run_to_unsafe w (η b 0) aaN abt d (by rw[g];decide) c (Nat.zero_lt_succ 1)];simp only[Result.andThen];rw[afq];go_wp2
 rw[run_callFunc_extern ad5 (by kernel_rfl) (by kernel_rfl) (by kernel_rfl) (e:=Extern.AbiNoEscape.same) (by kernel_rfl)];rw[Lib.run_noEscape];simp only[Result.andThen];rw[afq];go_wp2
 rw[Lib.run_from_unsafe w (η b 0) abt aaN d c MK];simp only[Result.andThen];rw[afq];go_wp2
 go_end0
 exact⟨rfl,rfl⟩
def MC(b:Nat)(w:ay)(f:w.cell? ⟨b,0,none⟩=some (π b)):
 Calls prog 122 #[π b] w λe c=>e=.returned (.tuple #[])/\c =w:=by
 have⟨g,d,h⟩:=afg.1 EA;go_in;go_wp2
 rw[Lib.run_neq_ptr_same w _ aaN d];go_wp2
 go_end0
 exact⟨rfl,rfl⟩
def U6(B b:Nat)(d:hU)(w:ay)(h:Bd B b d w):
 Calls prog 122 #[π b] w λe c=>e=.returned (.tuple #[])/\Lib.BuilderAtF 319 5 B b (π b) (Lib.byteCells d) c/\(d=[]->∃f,c.heap[b]?=some (.cells #[f,ς] 319 (0,0)))/\Below B w c/\Lib.OthersKept 5 (some b) w c:=by
 have g:=h.nil;obtain h|h:=h.wh
 ·refine(Mq b w h.cell0 h.shape h.frozen0).mono ?_;rintro e c⟨rfl,rfl⟩;refine⟨rfl,h.used _,λe=>?_,(X5 B w).setCell (p:=⟨b,0,none⟩) h.1 _,(adW _ _ w).setCell ⟨b,0,none⟩ rfl _⟩;have⟨f,i⟩:=g e;exact⟨π b,by simp[World.setCell,Array.getElem?_modify,i]⟩
 refine(MC b w h.cell0).mono ?_;rintro e c⟨rfl,rfl⟩;exact⟨rfl,h,g,X5 B _,adW _ _ _⟩
structure zl(B b:Nat)(aE:hU)(w:ay)(p v:az):Prop where
 XV:p=.pointer none\/p= π b
 jP:Lib.BuilderAtF 319 5 B b p (Lib.byteCells aE) w
 le:B<=b
 heap:w.heap[b]?=some (.cells #[p,v] 319 (0,0))
 bG:w.ownsRowF B 5 1 v aE.length (Lib.byteCells aE)
 ne:v.ownBlock≠some b
 nil:aE=[]->v= ς
def Bd.Lj(h:Bd k n d i):∃c v,zl k n d i c v:=by
 have a:∀c,(c=.pointer none\/c=π n)->Lib.BuilderAtF 319 5 k n c (Lib.byteCells d) i->∃c v,zl k n d i c v:=λc l f=>by have p:=f;have⟨s,v,j,B,o⟩:=p;rw[ZJ d]at B;refine⟨c,v,l,f,s,j,B,o,λe=>?_⟩;have⟨q,g⟩:=h.nil e;rw[j]at g;simp at g;exact g.2
 obtain f|f:=h.wh
 ·exact a _ (.inl rfl) f
 exact a _ (.inr rfl) f
def zl.slice{B b:Nat}{w:ay}{c v:az}(h:zl B b d w c v):∃a cap,v=.slice a d.length cap:=by
 obtain⟨rfl,e⟩|⟨i,cap,f,g,rfl,_⟩:=h.bG.2
 ·exact⟨none,0,by rw[e]⟩
 exact⟨_,_,rfl⟩
def Tw(B b:Nat)(c:hU)(s:aA)(w:ay)(h:Bd B b c w)(Y:c.length+s.size<=140737488355328)(ad:B<=w.heap.size):
 Calls prog 75 #[π b,.string s] w λe n=>e=.returned (.tuple #[ι s.size,.nilIface])/\Bd B b (c++s.data.toList) n/\Below B w n/\Lib.OthersKept 5 (some b) w n:=by
 have⟨S,I,O,R,G⟩:=Y1 Ro;have D:=ZJ c;go_in;go_wp2_with (go_at_call 122;refine(U6 B b c _ h).mono ?_)
 rintro e j⟨rfl,Q,F,u,M⟩;obtain⟨C,v,d,l,H⟩:=Q;have U:c=[]->v=ς:=λe=>by have⟨q,o⟩:=F e;rw[d]at o;simp at o;exact o.2
 have N:j.cell? ⟨b,1,none⟩=some v:=by rw[ZN d];rfl
 go_wp2_with (at_builtin;refine Lib.wpList_append_own_stringF _ rfl _ _ 126 9 rfl B 5 S YI Yj I O R G _ _ _ rfl l s rfl ?c3 ?c4 ?c5 ?_)
 case c3=>unfold maxLen;omega
 case c4=>omega
 case c5=>have:=u.size;omega
 intro L g A x W;have K:=(X8.1 d).1;have f:g.heap[b]?=some (.cells #[π b,v] 319 (0,0)):=by rw[x.block b K (λe=>H e.symm)];exact d
 have t:g.cell? ⟨b,1,none⟩=some v:=by rw[ZN f];rfl
 have X:=Lib.frozen_of_heap f 1;obtain⟨y,z,a,rfl⟩:∃y z a,L =.slice y z a:=by
  obtain⟨i,_⟩|⟨r,a,aa,m,i,_⟩:=A.2
  ·exact⟨_,_,_,i⟩
  exact⟨_,_,_,i⟩
 have E:Lib.byteCells (c++s.data.toList)=Lib.byteCells c++Lib.strCells s:=C' _ _;go_wp2
 go_ret2
 refine⟨rfl,⟨.inr ?_,λe=>?_⟩,?_,(M.grown x (Lib.ownsRowF_kind l)).setCell ⟨b,1,none⟩ rfl _⟩
 ·rw[E];exact Lib.BuilderAtF.put (T:=319) (e:=5) C f (bs':=Lib.byteCells c++Lib.strCells s) (by simpa [Lib.strCells_length,D]using A) (by decide)
 ·have J:=(afh.1 e).1;have Z:=(afh.1 e).2;have V:s=ByteArray.empty:=by cases s;simp_all;rfl
  have:=W.2 ⟨U J,V⟩;rw[this];exact⟨π b,by simp[World.setCell,Array.getElem?_modify,f]⟩
 exact(u.grown x (by have:=u.size;omega) (λk P=>(l.lt k P).1)).setCell (p:=⟨b,1,none⟩) C _
def K5(B b:Nat)(c:hU)(w:ay)(h:Bd B b c w):Calls prog 243 #[π b] w λe f=>e=.returned (ι c.length)/\f =w:=by
 have⟨g,v,d⟩:=h.Lj;obtain⟨a,i,rfl⟩:=d.slice;have:w.cell? ⟨b,1,none⟩=some (.slice a c.length i):=by rw[ZN d.heap];rfl
 go_in;go_wp2
 go_ret;exact⟨rfl,rfl⟩
def PD(B b:Nat)(w:ay)(h:Bd B b [] w):Calls prog 79 #[π b] w λe d=>e=.returned (ε)/\Below B w d:=by
 have⟨f,c⟩:=h.nil rfl;have j:w.drew.cell? ⟨b,1,none⟩=some (ς):=by have:w.drew.heap[b]?=some (.cells #[f,ς] 319 (0,0)):=c;rw[ZN this];rfl
 have i:(Builtin.unsafeSliceData_ #[126] 241 #[ς]).run prog w.drew=.ok (.pointer none) w.drew:=rfl;have g:(Builtin.unsafeString_ #[241,3] 9 #[.pointer none,ι 0]).run prog w.drew=.ok (ε) w.drew:=Lib.run_unsafeString_none w.drew _ _ _ none;go_in;go_wp2
 go_region
 all_goals(go_wp2;go_ret;exact⟨rfl,ae6 (X5 B w)⟩)
def NV(B b:Nat)(d:hU)(w:ay)(h:Bd B b d w)(j:d≠[]):Calls prog 79 #[π b] w λe n=>e=.returned (σ d)/\Below B w n:=by
 have⟨l,v,i⟩:=h.Lj;have p:d.length≠0:=by simpa using j
 obtain⟨c,a,f,g,rfl,o,y,J,G,u,H,s⟩:∃c a f g,v=ξ c d.length a/\B<=c/\w.heap[c]?=some (.cells f 5 g)/\g.2<=d.length*1/\d.length<=a/\a<=maxLen/\f.size=a*1/\f.toList.take (d.length*1)=Lib.byteCells d:=by
  obtain⟨_,E⟩|⟨c,a,f,g,D,r⟩:=i.bG.2
  ·exact absurd E p
  exact⟨c,a,f,g,D,r⟩
 have K:w.drew.cell? ⟨b,1,none⟩=some (ξ c d.length a):=by have:w.drew.heap[b]?=some (.cells #[l,ξ c d.length a] 319 (0,0)):=i.heap;rw[ZN this];rfl
 have I:(Builtin.unsafeSliceData_ #[126] 241 #[ξ c d.length a]).run prog w.drew=.ok (π c) w.drew:=Lib.run_unsafeSliceData_row _ _ _ _ _ _ (by omega);have F:(Builtin.unsafeString_ #[241,3] 9 #[π c,ι d.length]).run prog w.drew=.ok (σ d) (w.drew.freeze (η c 0) d.length):=by refine Lib.run_unsafeString_row w.drew 241 3 9 5 acE OL c f.size (by have C:w.drew.heap[c]?=some (.cells f 5 g):=y;simp[World.shape?,C]) d j (by omega) (by unfold maxLen at u;omega) ?_;intro z x A;exact i.bG.cells (g:=c) rfl z (.int .u8 x.toNat) (by simp[Lib.byteCells,A])
 go_in;go_wp2
 go_region
 all_goals(go_wp2;go_ret;exact⟨rfl,Lib.below_freeze (ae6 (X5 B w)) (p:=η c 0) o _⟩)
def VL(B b:Nat)(c:hU)(w:ay)(h:Bd B b c w):Calls prog 79 #[π b] w λe f=>e=.returned (σ c)/\Below B w f:=by
 by_cases d:c=[]
 ·subst d;exact PD B b w h
 exact NV B b c w h d
end
namespace Mk
abbrev Bs:=hU
def dV(c:UInt8):Bool:=c==32||c==9
def gj(b:Bs):Bs:=b.dropWhile dV
def sq(b:Bs):Bs:=(b.reverse.dropWhile dV).reverse
def cut(b:Bs):Bs:=gj (sq b)
def gR(b:Bs):Bs:=(b.reverse.dropWhile (·==92)).reverse
def ew(b:Bs):Bool:=b.getLast?==some 92
def jc:Bs->List Bs
 |[]=>[[]]
 |c::r=>if c==10 then []::jc r else(c::(jc r).headD [])::(jc r).tail
def f_:Bs->Nat->Bs->List Bs->Bs×Nat×List Bs
 |c,d,b,[]=>(c++gR b,d,[])|c,d,b,q::e=>if ew b then f_ (c++b.dropLast++[32]) (d+1) (gj q) e else(c++b,d,q::e)
def me:Nat->Nat->List Bs->List (Nat×Bs)
 |0,_,_=>[]
 |_+1,_,[]=>[]
 |f+1,n,c::b=>(n,(f_ [] 1 c b).1)::me f (n+(f_ [] 1 c b).2.1) (f_ [] 1 c b).2.2
def dF(t:Bs):List (Nat×Bs):=me (jc t).length 1 (jc t)
structure Ln where
 eK:Nat
 cK:Nat
 left:Bs
 right:Bs
def Ln.zero:Ln:=⟨0,0,[],[]⟩
def iK:Bs:=[105,110,99,108,117,100,101]
def bo(c:UInt8)(b:Bs):Bs:=b.takeWhile (λx=> !(x==c))
def ld(c:UInt8):Bool:=(65<=c&&c<=90)||(97<=c&&c<=122)||(48<=c&&c<=57)||c==95
def eT(b:Bs):Bool:= !b.isEmpty&&decide (b.length<=16)&&b.all ld
def dh(c:UInt8):Bool:= !(c==61||c==58)
def iG:Bs->Nat×Bs
 |58::61::b=>(3,b)|61::b=>(4,b)|c=>(5,c.tail)
def fV(b:Nat)(left:Bs):Bool:=if left==iK then false else if b==5 then !left.isEmpty else eT left
def oM(w:Bs):Ln:=if(gj w).isEmpty then Ln.zero else⟨0,1,[],gj w⟩
def jf(t:Bs):Bool:=iK.isPrefixOf t&&(match t.drop 7 with|[]=>true|c::_=>dV c)
def lU(b:Bs):Ln×Nat:=if b.isEmpty then(Ln.zero,1) else(⟨0,2,[],b⟩,0)
def gG(t:Bs):Ln×Nat:=
 if(t.dropWhile dh).isEmpty then(Ln.zero,1)
 else if fV (iG (t.dropWhile dh)).1 (cut (t.takeWhile dh)) then(⟨0,(iG (t.dropWhile dh)).1,cut (t.takeWhile dh),cut (iG (t.dropWhile dh)).2⟩,0)
 else(Ln.zero,1)
def bD(w:Bs):Ln×Nat:=
 if [9].isPrefixOf w then(oM w,0)
 else if(cut (bo 35 w)).isEmpty then(Ln.zero,0)
 else if jf (cut (bo 35 w)) then lU (cut ((cut (bo 35 w)).drop 7))
 else gG (cut (bo 35 w))
def eO:List (Nat×Bs)->List (Ln×Nat)
 |[]=>[]
 |(n,w)::r=>if(bD w).2==0&&(bD w).1.cK==0 then eO r
  else({(bD w).1 with eK:=n},(bD w).2)::(if (bD w).2==0 then eO r else [])
def e_:Bs->Bs->List Bs
 |b,[]=>if b.isEmpty then [] else [b]
 |b,c::r=>if dV c then(if b.isEmpty then e_ [] r else b::e_ [] r) else e_ (b++[c]) r
def bQ(b:Bs):List Bs:=e_ [] b
def ux(b:Bs):Bs:=[32].intercalate (bQ b)
def Di(left b right:Bs):Bs:=if right.isEmpty then left++[32]++b else left++[32]++b++[32]++right
def written(b:Ln):Bs:=
 if b.cK==1 then [9]++b.right
 else if b.cK==2 then iK++[32]++ux b.right
 else if b.cK==3 then Di b.left [58,61] b.right
 else if b.cK==4 then Di b.left [61] b.right
 else Di (ux b.left) [58] (ux b.right)
def Ko(b:Bs):Bs:=if ew b then b++[32] else b
def mi(b:UInt8->Bool)(c:Bs):Bs:=(c.reverse.dropWhile b).reverse
def yL:sq d=mi dV d:=rfl
def QX(b:UInt8->Bool):mi b []=[]:=rfl
def AF(b:UInt8->Bool):mi b (d++[l])=if b l then mi b d else d++[l]:=by
 unfold mi;rw[adX];by_cases h:b l
 ·simp[h]
 simp[h]
def yb(b:UInt8->Bool):mi b (l::d)=if(mi b d).isEmpty&&b l then [] else l::mi b d:=by
 unfold mi;rw[List.reverse_cons,afz];by_cases h:(d.reverse.dropWhile b).isEmpty
 ·have f:(d.reverse.dropWhile b)=[]:=by simpa using h
  rw[f];by_cases e:b l
  ·simp[e]
  simp[e]
 simp[h]
def BT(d:UInt8->Bool)(b:Bs):(mi d b).length<=b.length:=by
 induction b with
 |nil=>simp[QX]
 |cons c r e=>rw[yb];split<;>simp<;>omega
def xd(b:Bs):(gj b).length<=b.length:=by unfold gj;exact(afA _).length_le
def s6(b:Bs):(cut b).length<=b.length:=Ye (xd _) (BT _ _)
def sM:gj (l::d)=if dV l then gj d else l::d:=by unfold gj;rw[ZT]
def I6(d:Bs):sq (gj d)=cut d:=by
 unfold cut;induction d with
 |nil=>rfl
 |cons c r e=>
  rw[sM];simp only[yL]at e⊢;by_cases h:dV c
  ·rw[Yd h,e,yb];by_cases b:(mi dV r).isEmpty
   ·have f:mi dV r=[]:=by simpa using b
    simp[f,h]
   simp only[E3]at b;rw[b];simp only[qs,YN,Z4];rw[sM,Yd h]
  rw[Yb h,yb];simp only[E3]at h;simp[h,sM]
def GF(b:Bs):(iG b).2.length<=b.length:=by unfold iG;split<;>simp<;>omega
def Eu(c:UInt8->Bool)(b:Bs):(b.dropWhile c).length<=b.length:=(afA _).length_le
def after(c:UInt8)(b:Bs):Bs:=(b.dropWhile (λx=> !(x==c))).drop 1
def wK(c:UInt8)(d:Bs):(d.contains c=true->Lib.index d [c]=(bo c d).length)/\(d.contains c=false->Lib.index d [c]= -1):=by
 induction d with
 |nil=>simp[Lib.index]
 |cons b r i=>
  by_cases h:b=c
  ·subst h;simp[Lib.index,bo]
  have g:(c==b)=false:=by simpa using λe=>h e.symm
  have n:(b==c)=false:=by simpa using h
  have j:List.isPrefixOf [c] (b::r)=false:=by simp[List.isPrefixOf,g]
  have o:(b::r).contains c=r.contains c:=by rw[Zk,g,l8]
  rw[o];unfold Lib.index;rw[j];simp only[YN,Z4];constructor
  ·intro f;have:=i.1 f;rw[this];have l:(((bo c r).length:Int)== -1)=false:=by rw[Yi];omega
   rw[l];simp[bo,n]
  intro f;rw[i.2 f];rfl
def JW(c b:UInt8)(r:Bs)(h:(b::r).contains c=false):(b==c)=false/\r.contains c=false:=by rw[Zk,Y_]at h;refine⟨?_,h.2⟩;have:=h.1;rw[Yi]at this⊢;exact λe=>this e.symm
def Pn(c:UInt8)(d:Bs)(h:d.contains c=false):bo c d=d:=by
 induction d with
 |nil=>rfl|cons b r e=>have⟨g,f⟩:=JW c b r h;have:=e f;unfold bo at this⊢;rw[ZF,g,this];rfl
def O0(c:UInt8)(d:Bs)(h:d.contains c=false):after c d=[]:=by
 induction d with
 |nil=>rfl|cons b r e=>have⟨g,f⟩:=JW c b r h;have:=e f;unfold after at this⊢;rw[ZT,g];exact this
def has(c:UInt8)(b:Bs):Bool:=b.contains c
def UG:Lib.cut d [l]=(bo l d,after l d,has l d):=by
 unfold Lib.cut has;cases h:d.contains l with
 |true=>
  rw[(wK l d).1 h,Yd (by omega)];simp only[acV,Ya,Yr];have c:bo l d++d.dropWhile (λx=> !(x==l))=d:=aa2;have f:d.take (bo l d).length=bo l d:=by
   conv=>lhs;arg 2;rw[<-c]
   exact acZ
  have e:d.drop ((bo l d).length+(0+1))=after l d:=by
   rw[<-z6]
   conv=>lhs;arg 2;arg 2;rw[<-c]
   rw[adl];rfl
  rw[f,e]
 |false=>rw[(wK l d).2 h,Yb (by omega),Pn l d h,O0 l d h]
def EI:[32,9].contains l=dV l:=by simp only[Zk,adm,X2,dV]
def Qh:Lib.trimS d [32,9]=cut d:=by unfold Lib.trimS Lib.trimLeftS Lib.trimRightS cut gj sq;simp only[EI]
def LW:Lib.trimLeftS d [32,9]=gj d:=by unfold Lib.trimLeftS gj;simp only[EI]
def LG:Lib.trimRightS d [92]=gR d:=by
 unfold Lib.trimRightS gR;have:∀c:UInt8,[92].contains c=(c==92):=λc=>by simp only[Zk,adm,X2]
 simp only[this]
def Eb:Lib.hasSuffix d [92]=ew d:=by
 unfold Lib.hasSuffix ew;rw[ZE];simp only[ach,Zj];constructor
 ·rintro⟨t,rfl⟩;simp
 intro h;obtain⟨c,rfl⟩:=ZG.1 h;exact⟨c,rfl⟩
def LP(h:ew d=true):Lib.trimSuffix d [92]=d.dropLast:=by unfold Lib.trimSuffix;rw[Eb,Yd h,afB];rfl
end Mk
namespace Cp
abbrev Bs:=hU
structure Nv where
 aU:Bs
 oA:Bool
def qT:Nv:=⟨[],false⟩
structure Er where
 bK:Bs
 er:Nat
 bC:Nat
def dt(b a:Bs):Bs:=if b.length<=2000 then b++a else b
def ic(b:Bs)(c:Nat):Er:=if 2000<b.length then⟨[],5,c⟩ else⟨b,0,c⟩
def eD(N:Bs->Nv)(a:UInt8->Option Bs):Nat->List Bs->Nat->Bs->Bs->Option Er
 |0,_,_,_,_=>none
 |f+1,marked,b,e,d=>
  if Mk.has 36 d=false then some (ic (dt e (Mk.bo 36 d)) b) else
  match after 36 d with
  |[]=>some ⟨[],1,b⟩
  |c::z=>
   if c=36 then eD N a f marked b (dt (dt e (Mk.bo 36 d)) [36]) z
   else if c=40 then
    if Mk.has 41 z=false\/eT (Mk.bo 41 z)=false then some ⟨[],1,b⟩
    else if 300<b+1 then some ⟨[],5,b+1⟩
    else if(N (Mk.bo 41 z)).oA=true then
     if Mk.bo 41 z∈marked then some ⟨[],4,b+1⟩
     else match eD N a f (marked++[Mk.bo 41 z]) (b+1) [] (N (Mk.bo 41 z)).aU with
      |none=>none
      |some r=>if r.er=0 then eD N a f marked r.bC (dt (dt e (Mk.bo 36 d)) r.bK) (after 41 z) else some ⟨[],r.er,r.bC⟩
    else eD N a f marked (b+1) (dt (dt e (Mk.bo 36 d)) (N (Mk.bo 41 z)).aU) (after 41 z)
   else match a c with
    |none=>some ⟨[],1,b⟩
    |some g=>eD N a f marked b (dt (dt e (Mk.bo 36 d)) g) z
theorem qk{N:Bs->Nv}:∀(f b:Nat) (m:List Bs) (k:Nat) (a t:Bs) (r:Er),f<=b->eD N y f m k a t=some r->eD N y b m k a t=some r
 |0,_,_,_,_,_,_,_,h=>by cases h
 |f+1,0,_,_,_,_,_,v,_=>by omega
 |f+1,b+1,m,k,a,t,r,v,h=>by
  rw[eD]at h⊢;split
  ·rename_i n;rw[Yd n]at h;exact h
  rename_i n;rw[Yb n]at h;cases u:after 36 t with
  |nil=>rw[u]at h;exact h
  |cons c z=>
   rw[u]at h;simp only at h⊢;split
   ·rename_i e;rw[Yd e]at h;exact qk f b _ _ _ _ _ (by omega) h
   rename_i e;rw[Yb e]at h;split
   ·rename_i i;rw[Yd i]at h;split
    ·rename_i l;rw[Yd l]at h;exact h
    rename_i l;rw[Yb l]at h;split
    ·rename_i p;rw[Yd p]at h;exact h
    rename_i p;rw[Yb p]at h;split
    ·rename_i j;rw[Yd j]at h;split
     ·rename_i o;rw[Yd o]at h;exact h
     rename_i o;rw[Yb o]at h;cases g:eD N y f (m++[Mk.bo 41 z]) (k+1) [] (N (Mk.bo 41 z)).aU with
     |none=>rw[g]at h;cases h
     |some x=>
      rw[g]at h;rw[qk f b _ _ _ _ _ (by omega) g];simp only at h⊢;split
      ·rename_i d;rw[Yd d]at h;exact qk f b _ _ _ _ _ (by omega) h
      rename_i d;rw[Yb d]at h;exact h
    rename_i j;rw[Yb j]at h;exact qk f b _ _ _ _ _ (by omega) h
   rename_i i;rw[Yb i]at h;cases s:y c with
   |none=>rw[s]at h;exact h
   |some w=>rw[s]at h;exact qk f b _ _ _ _ _ (by omega) h
def b_(N:Bs->Nv)(sg:UInt8->Option Bs)(m:List Bs)(k:Nat)(a t:Bs)(r:Er):Prop:=∃f,eD N sg f m k a t=some r
def b_.mx{N:Bs->Nv}{r s:Er}(h:b_ N y m k a t r)(e:b_ N y m k a t s):r=s:=by have⟨c,i⟩:=h;have⟨b,f⟩:=e;have g:=qk c (c+b) m k a t r (by omega) i;have d:=qk b (c+b) m k a t s (by omega) f;rw[g]at d;cases d;rfl
def b_.pc{N:Bs->Nv}{sg:UInt8->Option Bs}{m:List Bs}{k:Nat}{a t:Bs}(h:Mk.has 36 t=false):b_ N sg m k a t (ic (dt a (Mk.bo 36 t)) k):=⟨1,by rw[eD,Yd h]⟩
end Cp
section
open RowKit
def WC(B b:Nat)(c:hU)(s:aA)(w:ay)(h:Bd B b c w)(z:s.size<=70368744177664)(y:B<=w.heap.size):
 Calls prog 196 #[π b,.string s] w λe d=>e=.returned (.tuple #[])/\Bd B b (dt c s.data.toList) d/\Below B w d/\Lib.OthersKept 5 (some b) w d:=by
 have i:=K5 B b c w h;by_cases g:c.length<=2000
 ·have:(c.length:Int)<=2000:=by omega
  have o:=Tw B b c s w h (by omega) y;have f:dt c s.data.toList=c++s.data.toList:=by unfold dt;rw[Yd g]
  rw[f];go_in;go_wp2_with (first|(go_at_call 243;refine i.mono ?_;rintro e j⟨rfl,rfl⟩)|(go_at_call 75;refine κ o λA⟨n,p,x⟩=>?_))
  go_end0
  exact⟨rfl,n,p,x⟩
 have:¬(c.length:Int)<=2000:=by omega
 have f:dt c s.data.toList=c:=by unfold dt;rw[Yb g]
 rw[f];go_in;go_wp2_with (go_at_call 243;refine i.mono ?_;rintro e j⟨rfl,rfl⟩)
 go_end0
 exact⟨rfl,h,X5 _ _,adW _ _ _⟩
def Vw(B b:Nat)(c:hU)(k:Nat)(w:ay)(h:Bd B b c w):
 Calls prog 197 #[π b] w λe l=>e=.returned (.tuple #[.string ⟨(ic c k).bK.toArray⟩,ι (ic c k).er])/\Below B w l:=by
 have g:=aC (K5 B b c w h);by_cases f:2000<c.length
 ·have:(2000:Int)<c.length:=by omega
  have d:ic c k=⟨[],5,k⟩:=by unfold ic;rw[Yd f]
  rw[d];go_in;go_wp2_with (go_at_call 243;refine g.mono ?_;rintro e i⟨rfl,rfl⟩)
  go_ret2
  exact⟨rfl,X5 _ _⟩
 have:¬(2000:Int)<c.length:=by omega
 have o:=aC (VL B b c w h);have d:ic c k=⟨c,0,k⟩:=by unfold ic;rw[Yb f]
 rw[d];go_in;go_wp2_with (first|(go_at_call 243;refine g.mono ?_;rintro e i⟨rfl,rfl⟩)|(go_at_call 79;refine κ o λp n=>?_))
 go_ret2
 exact⟨rfl,n⟩
def KN(d:μ j i):(∀b c,b<j.heap.size->i.cell? ⟨b,c,none⟩=j.cell? ⟨b,c,none⟩)/\(∀b c,b<j.heap.size->i.frozen? (η b c)=j.frozen? (η b c)):=⟨λb c h=>d.cell (p:=η b c) h,λb c h=>d.frozen (p:=η b c) h⟩
def lu(w:ay)(b:Nat)(t:TypeId)(d f c e:az):Prop:=w.heap[b]?=some (.cells #[d,f,c,e] t (0,0))
def lu.bq(w:ay)(t:TypeId)(b d e c:az):lu (w.alloc (.cells #[b,d,e,c] t)) w.heap.size t b d e c:=by show(w.heap.push _)[w.heap.size]?=_;simp
def lu.lt{w:ay}{b:Nat}{t:TypeId}(h:lu w b t c g f e):b<w.heap.size:=(X8.1 h).1
def lu.aD{t:TypeId}(h:lu j k t c g f e)(d:μ j i):lu i k t c g f e:=(d.block k h.lt).trans h
def lu.alloc{w:ay}{b:Nat}{t:TypeId}(h:lu w b t c g f e)(d:Obj):lu (w.alloc d) b t c g f e:=(Z0 w d b h.lt).trans h
def lu.cells{t:TypeId}(h:lu i k t c g f e):
 (i.cell? ⟨k,0,none⟩=some c/\i.cell? ⟨k,1,none⟩=some g/\i.cell? ⟨k,2,none⟩=some f/\i.cell? ⟨k,3,none⟩=some e)/\
 (i.frozen? (η k 0)=false/\i.frozen? (η k 1)=false/\i.frozen? (η k 2)=false/\i.frozen? (η k 3)=false):=by unfold lu at h;simp[World.cell?,World.frozen?,h]
def rZ(r:Int):Bool:=r==32||r==9
def qn(r:Int):Bool:=(decide (65<=r)&&decide (r<=90))||(decide (97<=r)&&decide (r<=122))||(decide (48<=r)&&decide (r<=57))||r==95
def Ae(r:Int)(w:ay):
 Calls prog 212 #[.int .i32 r] w λe b=>e=.returned (.bool (rZ r))/\w=b:=by
 go_in;go_wp2
 all_goals go_ret
 all_goals(refine ⟨?_,rfl⟩;simp[rZ, *])
def ED:
 Calls prog 275 #[.int .i32 o] i λe b=>e=.returned (.bool (qn o))/\i=b:=by
 go_in;go_wp2
 all_goals go_ret
 all_goals(refine ⟨kz ?_,rfl⟩;rw[ZE];simp[qn];try omega)
def xU(c:UInt8):qn c.toNat=ld c:=by rw[ZE];simp[qn,ld,UInt8.le_iff_toNat_le,<-UInt8.toNat_inj];omega
def Ea(c:Nat)(h:c<d.length)(b:ld d[c]=false):d.all ld=false:=by rw[aev];exact⟨d[c],Ym h,by simp[b]⟩
def Nc(h:16<d.length):eT d=false:=by simp[eT];omega
def Tc(h:128<=l.toNat):ld l=false:=by rw[<-xU];simp[qn];omega
def P5(h:128<=n):qn n=false:=by simp[qn];omega
def Hs(s:aA)(b:Nat)(h:b<s.size):1<=(Utf8.decode s b).2:=by
 by_cases c:(s[b]'h).toNat<128
 ·rw[ad6 s b h c];exact X0 _
 exact(aew s b h (by omega)).2
def sN(s:aA)(k:Nat)(h:k<s.size):s.data.toList.take (k+1)=s.data.toList.take k++[s[k]]:=by rw[Yn (by simpa using h)];rfl
def yE(h:b.toList.isEmpty=true):b.data.toList=[]:=by rw[Zx]at h;simpa using h
def E7(h:b.toList.isEmpty=false):b.data.toList≠[]:=by rw[Zx]at h;simpa using h
def FC(s:aA)(c:s.data.toList≠[])(e:s.size<=16):eT s.data.toList=s.data.toList.all ld:=by
 have d:=YJ s;have:s.data.toList.isEmpty=false:=by simpa using c
 have b:decide (s.data.toList.length<=16)=true:=by simp only[Zy];omega
 unfold eT;rw[this,b];simp
def Qy(s:aA)(d:s.data.toList≠[])(c:s.size<=16)(b:Nat)(h:b<s.size)(e:ld s[b]=false):eT s.data.toList=false:=by rw[FC s d c];exact Ea b (by rw[<-YJ];exact h) e
def Pq(s:aA)(d:s.data.toList≠[])(c:s.size<=16)(b:Nat)(h:¬b<s.size)(e:(s.data.toList.take b).all ld=true):eT s.data.toList=true:=by rw[FC s d c];rwa [YF (by rw[<-YJ];omega)]at e
def FW(s:aA)(w:ay):
 Calls prog 244 #[.string s] w λe B=>e=.returned (.bool (eT s.data.toList))/\μ w B:=by
 cases n:s.toList.isEmpty with
 |true=>
  have i:=aC (yE n);go_in;go_wp2
  go_ret;exact⟨kz (by rw[i.u];rfl),X5 _ _⟩
 |false=>
  have i:=aC (E7 n);by_cases D:16<s.size
  ·go_in;go_wp2
   all_goals go_ret
   all_goals exact⟨kz (Nc (by rw[<-YJ];exact D)).symm,X5 _ _⟩
  have y:s.size<=16:=by omega
  go_in;go_wp2
  go_loopw [4] (λ_ wr=>∃b:Nat,wr.heap[w.heap.size]?=some (.stringIter s b)/\Below w.heap.size w wr/\(s.data.toList.take b).all ld=true) (λ_ wr=>s.size-wr.iterPos w.heap.size)
  case atStart=>exact⟨0,by simpa using afr w s 0,ak w _,by simp⟩
  obtain⟨b,a,o,z⟩:=hrel;have v:=aC z;by_cases c:b<s.size
  ·have:∀d,(Instr.next (π w.heap.size) true d).run prog wr=_:=λd=>adY wr w.heap.size s b d a c;have:=Hs s b c;have p:=afs wr w.heap.size s b (b+(Utf8.decode s b).2) a;have x:=aeZ o (k:=w.heap.size) ax s (b+(Utf8.decode s b).2);by_cases g:qn (Utf8.decode s b).1=true
   ·have l:(s[b]'c).toNat<128:=by
     obtain h|h:=CI (s[b]'c).toNat 128
     ·exact h
     rw[P5 (aew s b c h).1]at g;cases g
    have E:=aC (ad6 s b c l);have j:=aC g;go_wp2_with (go_at_call 275;refine(ED).mono ?_;rintro e A⟨rfl,rfl⟩)
    refine⟨⟨b+(Utf8.decode s b).2,p,x,?_⟩,?_⟩
    ·have f:=j.u;rw[E.u]at f⊢;rw[sN s b c,acA,v.u];simpa [xU]using f
    simp only[World.iterPos,p,a];omega
   have j:=aC g;go_wp2_with (go_at_call 275;refine(ED).mono ?_;rintro e A⟨rfl,rfl⟩)
   go_ret;refine⟨kz (Qy s i.u y b c ?_).symm,x⟩;obtain h|h:=CI (s[b]'c).toNat 128
   ·have f:=j.u;rw[ad6 s b c h]at f;simpa [xU]using f
   exact Tc h
  have:∀d,(Instr.next (π w.heap.size) true d).run prog wr=_:=λd=>adZ wr w.heap.size s b d a c;go_wp2
  go_ret;exact⟨kz (Pq s i.u y b c v.u).symm,o⟩
def np:
 Calls prog 118 #[.int .u8 l.toNat] i λe d=>e=.returned (.bool (Mk.dV l))/\i=d:=by
 have b:Mk.dV l=((l.toNat:Int)==32||(l.toNat:Int)==9):=by rw[ZE];simp[Mk.dV,<-UInt8.toNat_inj];omega
 go_in;go_wp2
 all_goals go_ret
 all_goals(refine ⟨kz ?_,rfl⟩;rw[(aC b).u])
 all_goals simp[*]
def pO:az->Nat
 | .string t=>t.size
 |_=>0
def yg(t:aA)(h:0<t.size):t.data.toList=t[0]::(t.extract 1 t.size).data.toList:=by
 rw[ZQ];have b:0<t.data.toList.length:=by rw[<-YJ];exact h
 have:=Yu b;rw[n']at this;exact this
def MY(t:aA)(h:0<t.size):(t.extract 1 t.size).size<t.size:=by simp;omega
def Ed{s:aA}:
 Calls prog 117 #[.string s] j λe i=>e=.returned (.string ⟨(gj s.data.toList).toArray⟩)/\j=i:=by
 go_in;go_wp2
 go_loop [0] (λv=>∃t:aA,v=.string t/\gj t.data.toList=gj s.data.toList) (λv=>pO v)
 case atStart=>exact⟨s,rfl,rfl⟩
 obtain⟨t,rfl,g⟩:=hrel;have c:=aC g;by_cases b:0<t.size
 ·have d:=aC (yg t b);cases f:Mk.dV (t[0]'b) with
  |true=>
   go_wp2_with (go_at_call 118;refine(np).mono ?_;rintro e h⟨rfl,rfl⟩)
   refine⟨⟨_,rfl,?_⟩,MY t b⟩;rw[<-c.u,d.u,sM,Yd f]
  |false=>
   go_wp2_with (go_at_call 118;refine(np).mono ?_;rintro e h⟨rfl,rfl⟩)
   go_ret;refine⟨qp (ij ?_),rfl⟩;rw[<-c.u,d.u,sM,f];rfl
 go_wp2
 go_ret;refine⟨qp (ij ?_),rfl⟩;rw[<-c.u];have:t.data.toList=[]:=by rw[aa7,<-YJ];omega
 rw[this];rfl
def Qn(t:aA)(h:0<t.size):t.data.toList=(t.extract 0 (t.size-1)).data.toList++[t[t.size-1]]:=by rw[tv];simp only[n',ad4];have:=sN t (t.size-1) (by omega);rw[show t.size-1+1=t.size from by omega,YF (by rw[<-YJ];omega)]at this;exact this
def Ep(t:aA)(h:0<t.size):(t.extract 0 (t.size-1)).size<t.size:=by simp;omega
def mC(s:aA)(w:ay)(x:s.size<=4294967296):
 Calls prog 73 #[.string s] w λe o=>e=.returned (.string ⟨(Mk.cut s.data.toList).toArray⟩)/\w=o:=by
 have j:=xd s.data.toList;rw[<-YJ]at j;have l:=aC (I6 s.data.toList);generalize h:gj s.data.toList=q at j;have c:=aC h;go_in;go_wp2_with (go_at_call 117;refine(Ed).mono ?_;rintro e f⟨rfl,rfl⟩;rw[c.u])
 go_loop [0] (λv=>∃t:aA,v=.string t/\t.size<=4294967296/\sq t.data.toList=sq q) (λv=>pO v)
 case atStart=>exact⟨⟨q.toArray⟩,rfl,by rw[ea];omega,by simp⟩
 obtain⟨t,rfl,y,i⟩:=hrel;have d:=aC i;by_cases b:0<t.size
 ·have n:=aC (Qn t b);have p:t.size-1<t.size:=by omega
  cases g:Mk.dV (t[t.size-1]'p) with
  |true=>
   go_wp2_with (go_at_call 118;refine(np).mono ?_;rintro e f⟨rfl,rfl⟩)
   refine⟨⟨_,rfl,by have:=Ep t b;omega,?_⟩,Ep t b⟩;rw[<-d.u,n.u,yL,yL,AF,Yd g]
  |false=>
   go_wp2_with (go_at_call 118;refine(np).mono ?_;rintro e f⟨rfl,rfl⟩)
   go_ret;refine⟨qp (ij ?_),rfl⟩;rw[<-l.u,c.u,<-d.u,n.u,yL,AF,g];rfl
 go_wp2
 go_ret;refine⟨qp (ij ?_),rfl⟩;rw[<-l.u,c.u,<-d.u];have:t.data.toList=[]:=by rw[aa7,<-YJ];omega
 rw[this];rfl
def dq(w:ay):Prop:=∃m,w.cell? ⟨0,0,none⟩=some (ι m)
def dq.aD(h:dq j)(c:μ j i):dq i:=by have⟨m,b⟩:=h;exact⟨m,(c.cell (p:=η 0 0) (ZO j _ b)).trans b⟩
def below_drewN(w:ay)(n:Nat):μ w (w.drewN n):=by
 induction n with
 |zero=>exact X5 _ _
 |succ k b=>exact b.drew
def vJ(c:UInt8)(s:aA)(w:ay)(g:s.size<=4294967200)(d:dq w):
 γ 160 #[.string s,.string ⟨#[c]⟩] w (.tuple #[σ (Mk.bo c s.data.toList),σ (after c s.data.toList),.bool (Mk.has c s.data.toList)]):=by have⟨m,f⟩:=d;refine(Any.strings_Cut Tryz.V7 s ⟨#[c]⟩ m w (by omega) f).mono ?_;rintro e b⟨rfl,n,rfl⟩;refine⟨?_,below_drewN w n⟩;show Ending.returned (.tuple #[.string ⟨(Lib.cut s.data.toList [c]).1.toArray⟩,.string ⟨(Lib.cut s.data.toList [c]).2.1.toArray⟩,.bool (Lib.cut s.data.toList [c]).2.2])=_;rw[UG]
def Fb(s:aA)(c:s.size<=4294967296):
 θ 123 #[.string s,.string ⟨#[92]⟩] i (.bool (ew s.data.toList)):=by refine(Any.strings_HasSuffix Tryz.V0 s ⟨#[92]⟩ i (by omega)).mono ?_;rintro e b⟨rfl,rfl⟩;exact⟨kz (Eb),rfl⟩
def Nz(s:aA)(c:s.size<=4294967296)(h:ew s.data.toList=true):
 θ 207 #[.string s,.string ⟨#[92]⟩] i (σ s.data.toList.dropLast):=by refine(Any.strings_TrimSuffix Tryz.Wb s ⟨#[92]⟩ i (by omega)).mono ?_;rintro e b⟨rfl,rfl⟩;refine⟨qp ?_,rfl⟩;show(⟨(Lib.trimSuffix s.data.toList [92]).toArray⟩:aA)=_;rw[LP h]
def Pf(s:aA)(d:s.size<=4294967296):
 γ 209 #[.string s,.string ⟨#[92]⟩] i (σ (gR s.data.toList)):=by refine κ (Any.strings_TrimRight_laid Tryz.VV (by kernel_rfl) s ⟨#[92]⟩ i (by omega) (by decide) (afi (by decide))) λb c=>?_;refine⟨qp ?_,c⟩;show(⟨(Lib.trimRightS s.data.toList [92]).toArray⟩:aA)=_;rw[LG]
def PY:
 γ 250 #[.string h,.string ⟨#[32,9]⟩] i (σ (gj h.data.toList)):=by refine κ (Any.strings_TrimLeft_laid Tryz.VB (by kernel_rfl) h ⟨#[32,9]⟩ i (by decide) (afi (by decide))) λb c=>?_;refine⟨qp ?_,c⟩;show(⟨(Lib.trimLeftS h.data.toList [32,9]).toArray⟩:aA)=_;rw[LW]
def WQ(d:h.size<=4294967296):
 γ 147 #[.string h,.string ⟨#[32,9]⟩] i (σ (Mk.cut h.data.toList)):=by refine κ (Any.strings_Trim_laid Tryz.VU (by kernel_rfl) h ⟨#[32,9]⟩ i (by omega) (by decide) (afi (by decide))) λb c=>?_;refine⟨qp ?_,c⟩;show(⟨(Lib.trimS h.data.toList [32,9]).toArray⟩:aA)=_;rw[Qh]
def Fj(s b:aA):
 θ 158 #[.string s,.string b] i (.bool (b.data.toList.isPrefixOf s.data.toList)):=by refine(Any.strings_HasPrefix Tryz.Wx s b i).mono ?_;rintro e c⟨rfl,rfl⟩;exact⟨rfl,rfl⟩
def Fl(s b:aA)(w:ay):
 θ 126 #[.string s,.string b] w (.tuple #[σ (Lib.trimPrefix s.data.toList b.data.toList),.bool (b.data.toList.isPrefixOf s.data.toList)]):=by refine(Any.strings_CutPrefix Tryz.Kj s b w).mono ?_;rintro e c⟨rfl,rfl⟩;exact⟨rfl,rfl⟩
def wv(s b t:aA)(w:ay)(h:b.data.toList.isPrefixOf s.data.toList=true)(d:s.data.toList.drop b.data.toList.length=t.data.toList):
 θ 126 #[.string s,.string b] w (.tuple #[.string t,.bool true]):=by
 refine(Fl s b w).mono ?_;rintro e c⟨rfl,rfl⟩;refine⟨?_,rfl⟩;have:Lib.trimPrefix s.data.toList b.data.toList=t.data.toList:=by unfold Lib.trimPrefix Lib.hasPrefix;rw[Yd h,d]
 unfold σ;rw[this,h,<-ij (t:=t) rfl]
def xQ(s b:aA)(h:b.data.toList.isPrefixOf s.data.toList=false):
 θ 126 #[.string s,.string b] i (.tuple #[.string s,.bool false]):=by
 refine(Fl s b i).mono ?_;rintro e c⟨rfl,rfl⟩;refine⟨?_,rfl⟩;have:Lib.trimPrefix s.data.toList b.data.toList=s.data.toList:=by unfold Lib.trimPrefix Lib.hasPrefix;rw[h];rfl
 unfold σ;rw[this,h,<-ij (t:=s) rfl]
def uP(s:aA)(w:ay)(d:s.size<=4294967296):
 Calls prog 95 #[.string s] w λe b=>e=.returned (.string ⟨(Mk.cut s.data.toList).toArray⟩)/\μ w b:=by
 go_in;go_wp2_with (go_at_call 147;refine(WQ d).mono ?_;rintro e f⟨rfl,c⟩)
 go_ret;exact⟨rfl,c⟩
def EK:
 Calls prog 208 #[.string h] i λe b=>e=.returned (.string ⟨(gj h.data.toList).toArray⟩)/\μ i b:=by
 go_in;go_wp2_with (go_at_call 250;refine(PY).mono ?_;rintro e d⟨rfl,c⟩)
 go_ret;exact⟨rfl,c⟩
def dQ(b:Ln):az:=.agg #[ι b.eK,ι b.cK,.string ⟨b.left.toArray⟩,.string ⟨b.right.toArray⟩]
def qt(h:Below k j i)(c:k<=n)(b a e d:az):
 Below k j ((((i.ψ n 0 b).ψ n 1 a).ψ n 2 e).ψ n 3 d):=
 (((h.setCell (p:=η n 0) c b).setCell (p:=η n 1) c a).setCell (p:=η n 2) c e).setCell (p:=η n 3) c d
def rm{b:Obj}(c:Below (j.alloc b).heap.size (j.alloc b) i):μ j i:=(ak j _).trans (c.mono (by simp))
def LI:
 Calls prog 159 #[.string b] i λe f=>e=.returned (dQ (oM b.data.toList))/\μ i f:=by
 go_in;go_wp2_with (go_at_call 208;refine(EK).mono ?_;rintro e g⟨rfl,c⟩;have⟨d,h⟩:=KN c)
 ·refine Yw (v:=dQ (oM b.data.toList)) ?_ rfl ⟨rfl,?_⟩
  ·rename_i w;simp[results,results159,go_sem,d,dQ,oM,w,Ln.zero]
  exact qt (rm c) ax _ _ _ _
 refine Yw (v:=dQ (oM b.data.toList)) ?_ rfl ⟨rfl,?_⟩
 ·rename_i w;simp[results,results159,go_sem,d,dQ,oM,w]
 exact qt (rm c) ax _ _ _ _
def LH(s:aA):
 Calls prog 162 #[.string s] i λe d=>e=.returned (.tuple #[dQ (lU s.data.toList).1,ι (lU s.data.toList).2])/\μ i d:=by
 cases c:s.toList.isEmpty with
 |true=>
  have b:s.data.toList.isEmpty=true:=by rw[<-Zx];exact c
  go_in;go_wp2
  refine Yw (v:=.tuple #[dQ (lU s.data.toList).1,ι (lU s.data.toList).2]) ?_ rfl ⟨rfl,ak i _⟩;simp[results,results162,go_sem,dQ,lU,b,Ln.zero]
 |false=>
  have b:s.data.toList.isEmpty=false:=by rw[<-Zx];exact c
  go_in;go_wp2
  refine Yw (v:=.tuple #[dQ (lU s.data.toList).1,ι (lU s.data.toList).2]) ?_ rfl ⟨rfl,ak i _⟩;simp[results,results162,go_sem,dQ,lU,b]
end
namespace Cp
section
variable {N:aj->Nv}{sg:UInt8->jj}{z:aj}{r q:Er}
def b_.nil(h:Mk.has 36 t=true)(b:after 36 t=[]):b_ N sg m k a t ⟨[],1,k⟩:=⟨1,by rw[eD,Yb (by rw[h];decide),b]⟩
def b_.y9(h:Mk.has 36 t=true)(c:after 36 t=36::z)(d:b_ N sg m k (dt (dt a (Mk.bo 36 t)) [36]) z r):b_ N sg m k a t r:=by have⟨f,b⟩:=d;refine⟨f+1,?_⟩;rw[eD,Yb (by rw[h];decide),c];simp only[Z8];exact b
def b_.im(h:Mk.has 36 t=true)(b:after 36 t=40::z)(c:Mk.has 41 z=false\/eT (Mk.bo 41 z)=false):b_ N sg m k a t ⟨[],1,k⟩:=by refine⟨1,?_⟩;rw[eD,Yb (by rw[h];decide),b];simp only;rw[Yb (by decide),Yd trivial,Yd c]
def b_.pa(h:Mk.has 36 t=true)(i:after 36 t=l::z)(g:l≠36)(e:l≠40):(sg l=none->b_ N sg m k a t ⟨[],1,k⟩)/\(∀d,sg l=some d->b_ N sg m k (dt (dt a (Mk.bo 36 t)) d) z r->b_ N sg m k a t r):=by
 refine⟨λb=>⟨1,?_⟩,λd b c=>?_⟩
 ·rw[eD,Yb (by rw[h];decide),i];simp only;rw[Yb g,Yb e,b]
 have⟨f,j⟩:=c;refine⟨f+1,?_⟩;rw[eD,Yb (by rw[h];decide),i];simp only;rw[Yb g,Yb e,b];exact j
def rJ(N:Bs->Nv)(b:UInt8->Option Bs)(m:List Bs)(k:Nat)(a:Bs)(r:Er):Prop:=
 (300<k+1/\r=⟨[],5,k+1⟩)\/(¬300<k+1/\(N a).oA=true/\a∈m/\r=⟨[],4,k+1⟩)\/
 (¬300<k+1/\(N a).oA=true/\a∉m/\b_ N b (m++[a]) (k+1) [] (N a).aU r)\/(¬300<k+1/\(N a).oA=false/\r=⟨(N a).aU,0,k+1⟩)
def b_.qR(h:Mk.has 36 t=true)(i:after 36 t=40::z)(w:Mk.has 41 z=true)(u:eT (Mk.bo 41 z)=true)(s:rJ N sg m k (Mk.bo 41 z) r):
 (r.er≠0->b_ N sg m k a t ⟨[],r.er,r.bC⟩)/\(r.er=0->∀q,b_ N sg m r.bC (dt (dt a (Mk.bo 36 t)) r.bK) (after 41 z) q->b_ N sg m k a t q):=by
 have d:¬(Mk.has 41 z=false\/eT (Mk.bo 41 z)=false):=by rw[w,u];simp
 obtain⟨b,rfl⟩|⟨b,c,j,rfl⟩|⟨b,c,j,g,o⟩|⟨b,c,rfl⟩:=s
 ·refine⟨λ_=>⟨1,?_⟩,λe=>by simp at e⟩;rw[eD,Yb (by rw[h];decide),i];simp only;rw[Yb (by decide),Yd trivial,Yb d,Yd b]
 ·refine⟨λ_=>⟨1,?_⟩,λe=>by simp at e⟩;rw[eD,Yb (by rw[h];decide),i];simp only;rw[Yb (by decide),Yd trivial,Yb d,Yb b,Yd c,Yd j]
 ·refine⟨λe=>⟨g+1,?_⟩,λe q n=>?_⟩
  ·rw[eD,Yb (by rw[h];decide),i];simp only;rw[Yb (by decide),Yd trivial,Yb d,Yb b,Yd c,Yb j,o];simp only;rw[Yb e]
  have⟨l,v⟩:=n;refine⟨g+l+1,?_⟩;rw[eD,Yb (by rw[h];decide),i];simp only;rw[Yb (by decide),Yd trivial,Yb d,Yb b,Yd c,Yb j,qk g (g+l) _ _ _ _ _ (by omega) o];simp only;rw[Yd e];exact qk l (g+l) _ _ _ _ _ (by omega) v
 refine⟨λe=>by simp at e,λ_ q n=>?_⟩;have⟨f,p⟩:=n;refine⟨f+1,?_⟩;rw[eD,Yb (by rw[h];decide),i];simp only;rw[Yb (by decide),Yd trivial,Yb d,Yb b,Yb (by rw[c];decide)];exact p
end
end Cp
section
open RowKit
def Hr:rZ l.toNat=Mk.dV l:=by rw[ZE];simp[rZ,Mk.dV,<-UInt8.toNat_inj];omega
def EZ:wrap32 (l.toNat:Int)=l.toNat:=by have:=l.toNat_lt;unfold wrap32;omega
def uO(b:hU):az:=.tuple #[.string ⟨(if jf b then Mk.cut (b.drop 7) else []).toArray⟩,.bool (jf b)]
def ET(b:iK.isPrefixOf d=true)(h:d.drop 7=l::a):jf d=Mk.dV l:=by unfold jf;rw[b,h];rfl
def O_(b:iK.isPrefixOf d=true)(h:d.drop 7=[]):jf d=true:=by unfold jf;rw[b,h];rfl
def LL(s:aA)(A:s.size<=4294967296):
 γ 161 #[.string s] i (uO s.data.toList):=by
 unfold γ;cases h:iK.isPrefixOf s.data.toList with
 |false=>
  have g:Hid (jf s.data.toList=false):=by unfold jf;rw[h];rfl
  have c:=aC h;go_in;go_wp2_with (go_at_call 126;refine(xQ s ⟨#[105,110,99,108,117,100,101]⟩ c).mono ?_;rintro e f⟨rfl,rfl⟩)
  go_ret2
  refine⟨?_,X5 _ _⟩;unfold uO;rw[g.u];rfl
 |true=>
  obtain⟨t,j⟩:∃t:aA,s.data.toList.drop 7=t.data.toList:=⟨⟨(s.data.toList.drop 7).toArray⟩,by simp⟩;have o:t.size<=4294967296:=by have y:=YJ t;have v:=Yg List.length j;have z:=YJ s;rw[Zu]at v;omega
  have c:=aC h;have d:=aC j;cases l:t.toList.isEmpty with
  |true=>
   have g:Hid (jf s.data.toList=true):=O_ c (by rw[d.u];exact yE l);go_in;go_wp2_with (first|(go_at_call 126;refine(wv s ⟨#[105,110,99,108,117,100,101]⟩ t _ c d).mono ?_;rintro e f⟨rfl,rfl⟩)|(go_at_call 95;refine κ (uP t _ o) λf b=>?_))
   go_ret2
   refine⟨?_,b⟩;unfold uO;rw[g.u,d.u];rfl
  |false=>
   have w:0<t.size:=by have:=E7 l;rw[YJ];exact Y5.2 this
   have n:=aC (yg t w);cases b:Mk.dV (t[0]'w) with
   |true=>
    have g:Hid (jf s.data.toList=true):=by show _=_;rw[ET c.u (d.u.trans n.u)];exact b
    have x:rZ (wrap32 (t[0]'w).toNat)=true:=by rw[EZ,Hr];exact b
    go_in;go_wp2_with (first|(go_at_call 126;refine(wv s ⟨#[105,110,99,108,117,100,101]⟩ t _ c d).mono ?_;rintro e f⟨rfl,rfl⟩)|(go_at_call 212;refine(Ae _ _).mono ?_;rintro e f⟨rfl,rfl⟩)|(go_at_call 95;refine κ (uP t _ o) λf b=>?_))
    go_ret2
    refine⟨?_,b⟩;unfold uO;rw[g.u,d.u];rfl
   |false=>
    have g:Hid (jf s.data.toList=false):=by show _=_;rw[ET c.u (d.u.trans n.u)];exact b
    have x:rZ (wrap32 (t[0]'w).toNat)=false:=by rw[EZ,Hr];exact b
    go_in;go_wp2_with (first|(go_at_call 126;refine(wv s ⟨#[105,110,99,108,117,100,101]⟩ t _ c d).mono ?_;rintro e f⟨rfl,rfl⟩)|(go_at_call 212;refine(Ae _ _).mono ?_;rintro e f⟨rfl,rfl⟩))
    go_ret2
    refine⟨?_,X5 _ _⟩;unfold uO;rw[g.u];rfl
def xg(b:hU):az:=.tuple #[ι (iG b).1,.string ⟨(iG b).2.toArray⟩]
def MX(h:List.isPrefixOf [58,61] d=true):iG d=(3,d.drop 2):=by
 match d,h with
 |[],h=>simp[List.isPrefixOf]at h
 |[_],h=>simp[List.isPrefixOf]at h
 |a::b::r,h=>simp[List.isPrefixOf]at h;obtain⟨rfl,rfl⟩:=h;rfl
def N_(h:List.isPrefixOf [61] d=true):iG d=(4,d.drop 1):=by
 match d,h with
 |[],h=>simp[List.isPrefixOf]at h
 |a::r,h=>simp[List.isPrefixOf]at h;subst h;rfl
def Nx(b:List.isPrefixOf [58,61] d=false)(c:List.isPrefixOf [61] d=false):iG d=(5,d.tail):=by
 unfold iG;split
 ·simp[List.isPrefixOf]at b
 ·simp[List.isPrefixOf]at c
 rfl
def LV{s:aA}(l:0<s.size):
 Calls prog 214 #[.string s] j λe i=>e=.returned (xg s.data.toList)/\μ j i:=by
 cases b:List.isPrefixOf [58,61] s.data.toList with
 |true=>
  have d:=aC (MX b);have f:=aC b;clear b;go_in;go_wp2_with (go_at_call 126;refine(wv s ⟨#[58,61]⟩ ⟨(s.data.toList.drop 2).toArray⟩ _ f (by simp)).mono ?_;rintro e g⟨rfl,rfl⟩)
  go_ret2
  refine⟨?_,X5 _ _⟩;unfold xg;rw[d.u];rfl
 |false=>
  have f:=aC b;cases c:List.isPrefixOf [61] s.data.toList with
  |true=>
   have d:=aC (N_ c);have h:=aC c;clear b c;go_in;go_wp2_with (first|(go_at_call 126;refine(xQ s ⟨#[58,61]⟩ f).mono ?_;rintro e g⟨rfl,rfl⟩;clear f)|(go_at_call 126;refine(wv s ⟨#[61]⟩ ⟨(s.data.toList.drop 1).toArray⟩ _ h (by simp)).mono ?_;rintro e g⟨rfl,rfl⟩))
   go_ret2
   refine⟨?_,X5 _ _⟩;unfold xg;rw[d.u];rw[List.drop_one];rfl
  |false=>
   have d:=aC (Nx b c);have h:=aC c;clear b c;go_in;go_wp2_with fail
   refine(xQ s ⟨#[58,61]⟩ f).mono ?_;rintro e g⟨rfl,rfl⟩;go_wp2_with fail
   refine(xQ s ⟨#[61]⟩ h).mono ?_;rintro e g⟨rfl,rfl⟩;go_wp2_with fail
   go_region
   go_wp2
   go_ret2
   refine⟨?_,(X5 _ _).drew⟩;unfold xg;have w:s.extract 1 s.size=⟨s.data.toList.tail.toArray⟩:=ij (by rw[ZQ,List.drop_one]);rw[d.u];show Ending.returned (.tuple #[ι 5,.string (s.extract 1 s.size)])=_;rw[w];rfl
def LF(n:Int)(k:Nat)(s t:aA)(w:ay):
 Calls prog 215 #[.agg #[ι n,ι k,.string s,.string t]] w λe f=>e=.returned (.bool (fV k s.data.toList))/\μ w f:=by
 go_in;go_wp2_with (go_at_call 244;refine(FW _ _).mono ?_;rintro e i⟨rfl,g⟩)
 ·rename_i h;go_ret;refine⟨kz ?_,ak w _⟩;rw[Zx]at h;have b:(s.data.toList==iK)=true:=h;unfold fV;rw[b];rfl
 ·rename_i h _ _ c;go_ret;refine⟨kz ?_,ak w _⟩;rw[Zx]at h;have b:(s.data.toList==iK)=false:=h;have d:(k==5)=true:=by rw[Zj]at c⊢;omega
  unfold fV;rw[b,d,Zx];rfl
 rename_i h c;go_ret;refine⟨kz ?_,rm g⟩;rw[Zx]at h;have b:(s.data.toList==iK)=false:=h;have d:(k==5)=false:=by rw[Yi]at c⊢;omega
 unfold fV;rw[b,d];rfl
def Mp(c:h.size=0):
 δ 278 #[.string h,.int .u8 o] i (ι (-1)):=by
 refine(Any.strings_IndexByte Tryz.VK h o i).mono ?_;rintro e b⟨rfl,rfl⟩;have:h.data.toList=[]:=by rw[aa7,<-YJ];exact c
 rw[this];exact⟨rfl,rfl⟩
def L6(z:128<=o)(I:o<=1114111):
 γ 251 #[.string ⟨#[61,58]⟩,.int .i32 o] i (ι (-1)):=by
 unfold ι;by_cases d:o=65533
 ·subst d;go_enter abY,ntmps251;go_wp2_with fail
  go_loopw [5,6] (λ_ _ wr=>∃b:Nat,b<=2/\wr.heap[i.heap.size]?=some (.stringIter ⟨#[61,58]⟩ b)/\Below i.heap.size i wr) (λ_ _ wr=>2-wr.iterPos i.heap.size)
  case atStart=>exact⟨0,by omega,by simpa using afr i ⟨#[61,58]⟩ 0,ak i _⟩
  obtain⟨b,E,a,f⟩:=hrel;by_cases l:b<2
  ·have n:∀c,(Instr.next (π i.heap.size) true c).run prog wr=_:=λc=>adY wr i.heap.size ⟨#[61,58]⟩ b c a l;have u:(Utf8.decode ⟨#[61,58]⟩ b).2=1/\(((Utf8.decode ⟨#[61,58]⟩ b).1:Int)==65533)=false:=by rcases(by omega:b=0\/b=1)with rfl|rfl<;>decide
   obtain⟨r,B⟩:=u;have h:=afs wr i.heap.size ⟨#[61,58]⟩ b (b+1) a;have A:=aeZ f (k:=i.heap.size) ax ⟨#[61,58]⟩ (b+1);rw[r]at n;clear r;go_wp2_with fail
   refine⟨⟨b+1,by omega,h,A⟩,?_⟩;simp only[World.iterPos,h,a];omega
  have n:∀c,(Instr.next (π i.heap.size) true c).run prog wr=_:=λc=>adZ wr i.heap.size ⟨#[61,58]⟩ b c a l;go_wp2_with fail
  go_ret;exact⟨rfl,f⟩
 have C:(o==65533)=false:=by simpa using d
 have HR:=aC d;clear d;cases v:Lib.validRune o with
 |false=>
  go_enter abY,ntmps251;go_wp2_with fail
  refine(Any.utf8_ValidRune Tryz.Kx _ _).mono ?_;rintro e x⟨rfl,rfl⟩;go_wp2_with fail
  go_ret;exact⟨rfl,X5 _ _⟩
 |true=>
  have g:Utf8.valid o=true:=by rw[validRune_eq];exact v
  obtain⟨D,H,w⟩:=encode_facts o g z;have j:(Utf8.encode o).size-1<(Utf8.encode o).size:=by omega
  have p:=w j;clear w g;go_enter abY,ntmps251;go_wp2_with fail
  refine(Any.utf8_ValidRune Tryz.Kx _ _).mono ?_;rintro e x⟨rfl,rfl⟩;by_cases F:(Utf8.encode o).size=2
  ·have G:((((⟨#[61,58]⟩:aA)[1]'(by decide)).toNat:Int) !=((Utf8.encode o)[1]'(by omega)).toNat)=true:=by
    have s:((Utf8.encode o)[(Utf8.encode o).size-1]'j)=(Utf8.encode o)[1]'(by omega):=by congr 1;omega
    rw[s]at p;rw[ZI];show((58:Nat):Int)≠_;omega
   go_wp2_with fail
   go_step3
   go_wp2_with fail
   refine qa 1 ?_;rw[Z3];go_wp2_with fail
   go_step3
   go_wp2_with fail
   go_region
   go_wp2_with fail
   go_region_with (go_at_call 278;refine(Mp (by simp)).mono ?_;rintro e J⟨rfl,rfl⟩)
   all_goals go_wp2_with fail
   all_goals rw[afu]
   all_goals simp only[Exit.inBlock,Exit.then]
   all_goals rw[afu]
   all_goals go_ret
   all_goals exact⟨rfl,by repeat (first|exact X5 _ _|refine ae6 ?_)⟩
  go_wp2_with fail
  go_step3
  go_wp2_with fail
  refine qa 1 ?_;rw[Z3];go_wp2_with fail
  rw[afu];go_ret;exact⟨rfl,X5 _ _⟩
end
namespace Mk
def By(s:aA)(b:Nat)(h:b<s.size):s.data.toList[b]?=some (s.get! b):=by
 have c:b<s.data.toList.length:=by rw[<-YJ];exact h
 rw[X9 c];congr 1;have:=get_at s b h;rw[ZH]at this;rw[this];rfl
def EM(s:aA)(b:Nat)(h:b<s.size):s.get! b=s[b]'h:=by have:=get_at s b h;rwa [ZH]at this
def AJ(s:aA)(b:Nat)(h:b<s.size)(f:128<=(s[b]'h).toNat)(c:Nat)(g:c<(Utf8.decode s b).2):
 b+c<s.size/\128<=(s.get! (b+c)).toNat:=by
 have j:=Lib.decodeN_conts (s.size-b) (s.get! b).toNat (s.get! (b+1)).toNat (s.get! (b+2)).toNat (s.get! (b+3)).toNat;rw[Lib.decode_at]at g;have⟨i,d,e,l⟩:=j;rcases(by omega:c=0\/c=1\/c=2\/c=3)with rfl|rfl|rfl|rfl
 ·rw[ZH,EM s b h];exact⟨h,f⟩
 ·have:=i (by omega);exact⟨by omega,by omega⟩
 ·have:=d (by omega);exact⟨by omega,by omega⟩
 have:=e (by omega);exact⟨by omega,by omega⟩
def jI(n:Nat):Bool:=n==32||n==9
def GA:jI l.toNat=dV l:=by rw[ZE];simp[jI,dV,<-UInt8.toNat_inj]
def SZ(h:128<=l.toNat):dV l=false:=by rw[<-GA];simp[jI];omega
theorem EO:∀(r b z:Bs),(∀c∈r,dV c=false)->e_ b (r++z)=e_ (b++r) z
 |[],b,z,_=>by simp
 |c::r,b,z,h=>by rw[Y3,e_,h c (Yq ..)];simp only[YN,Z4];rw[EO r (b++[c]) z (λx e=>h x (Yp _ e))];simp
def Md(s:aA)(b:Nat)(h:b<s.size)(n:128<=(s[b]'h).toNat):
 ∀c∈(s.data.toList.drop b).take (Utf8.decode s b).2,dV c=false:=by
 intro c o;obtain⟨d,e,rfl⟩:=adS.1 o;have g:d<(Utf8.decode s b).2:=by rw[YL]at e;omega
 have⟨j,i⟩:=AJ s b h n d g;refine SZ ?_;have f:((s.data.toList.drop b).take (Utf8.decode s b).2)[d]?=some (s.get! (b+d)):=by rw[acN,Yd g,List.getElem?_drop,By s (b+d) j]
 rw[X9 e]at f;rw[YW f];exact i
def oc(c:Bs)(b:Nat):ib->Bs
 |none=>[]
 |some a=>(c.drop a).take (b-a)
def Oj(s:aA):∀(f c:Nat) (d:ib) (e:List (Nat×Nat)),s.size<=c+f->c<=s.size->(∀a,d=some a->a<c)->
 (Lib.closeSpans s (Lib.spansFromP jI s f c d e)).map (λx=>(s.extract x.1 x.2).data.toList)=
  e.map (λx=>(s.extract x.1 x.2).data.toList)++e_ (oc s.data.toList c d) (s.data.toList.drop c):=by
 have E:=YJ s;have z:∀(f c:Nat) (d:ib) (e:List (Nat×Nat)),¬c<s.size->c<=s.size->(∀a,d=some a->a<c)->
  (Lib.closeSpans s (Lib.spansFromP jI s f c d e)).map (λx=>(s.extract x.1 x.2).data.toList)=
   e.map (λx=>(s.extract x.1 x.2).data.toList)++e_ (oc s.data.toList c d) (s.data.toList.drop c):=by
  intro f c d e g o i;rw[Lib.spansFromP_end _ _ _ _ _ _ g];have B:s.data.toList.drop c=[]:=Zz (by omega);rw[B];have D:c=s.size:=by omega
  cases d with
  |none=>simp[Lib.closeSpans,oc,e_]
  |some a=>
   have w:=i a rfl;have v:((s.data.toList.drop a).take (c-a)).isEmpty=false:=by rw[L4];intro u;have:=Yg List.length u;rw[YL,Zu,Yr]at this;omega
   simp only[Lib.closeSpans,Yy,YE,Z9,oc,e_,v];rw[tv,D];simp
 intro f;induction f with
 |zero=>exact λc d e h o i=>z 0 c d e (by omega) o i
 |succ f l=>
  intro c d e h o i;by_cases g:c<s.size
  ·have p:s.data.toList.drop c=(s[c]'g)::s.data.toList.drop (c+1):=Yu (by rw[<-E];exact g);unfold Lib.spansFromP;rw[Yd g];by_cases C:(s[c]'g).toNat<128
   ·rw[ad6 s c g C];simp only;rw[GA];cases j:dV (s[c]'g) with
    |true=>
     rw[p,e_,j];simp only[Z8];cases d with
     |none=>simp only;rw[l (c+1) none e (by omega) (by omega) (by simp)];simp[oc]
     |some a=>
      have w:=i a rfl;have v:((s.data.toList.drop a).take (c-a)).isEmpty=false:=by rw[L4];intro u;have:=Yg List.length u;rw[YL,Zu,Yr]at this;omega
      simp only;rw[l (c+1) none (e++[(a,c)]) (by omega) (by omega) (by simp)];simp only[Yy,YE,Z9,oc,v];rw[tv];simp
    |false=>
     rw[p,e_,j];simp only[YN,Z4];cases d with
     |none=>simp only;rw[l (c+1) (some c) e (by omega) (by omega) (by simp)];simp only[oc,Y2];rw[p,show c+1-c=1 from by omega];rfl
     |some a=>have w:=i a rfl;simp only;rw[l (c+1) (some a) e (by omega) (by omega) (by intro b n;cases n;omega)];simp only[oc];congr 2;rw[show c+1-a=(c-a)+1 from by omega,Yn (by rw[Zu];omega)];congr 2;rw[List.getElem_drop];show(s.data.toList[a+(c-a)]'_)=s.data.toList[c]'_;congr 1;omega
   have j:128<=(s[c]'g).toNat:=by omega
   have H:=(aew s c g j).1;have I:=(aew s c g j).2;have F:jI (Utf8.decode s c).1=false:=by simp[jI];omega
   have G:=(AJ s c g j ((Utf8.decode s c).2-1) (by omega)).1;have A:c+(Utf8.decode s c).2<=s.size:=by omega
   have y:=EO ((s.data.toList.drop c).take (Utf8.decode s c).2) (oc s.data.toList c d) (s.data.toList.drop (c+(Utf8.decode s c).2)) (Md s c g j);rw[<-z6,C0]at y;rw[F,y,z6];simp only[YN,Z4];cases d with
   |none=>simp only;rw[l (c+(Utf8.decode s c).2) (some c) e (by omega) A (by intro b n;cases n;omega)];simp only[oc,Y2];rw[show c+(Utf8.decode s c).2-c=(Utf8.decode s c).2 from by omega]
   |some a=>have w:=i a rfl;simp only;rw[l (c+(Utf8.decode s c).2) (some a) e (by omega) A (by intro b n;cases n;omega)];simp only[oc];congr 2;rw[show c+(Utf8.decode s c).2-a=(c-a)+(Utf8.decode s c).2 from by omega,List.take_add,z6,show a+(c-a)=c from by omega]
  exact z (f+1) c d e g o i
def L5(s:aA):(Lib.goFieldsP jI s).map (·.data.toList)=bQ s.data.toList:=by have:=Oj s s.size 0 none [] (by omega) (Yh _) (by simp);simp only[Z9,Y2,oc,n']at this;unfold Lib.goFieldsP Lib.spansOfP bQ;rw[k6];exact this
end Mk
section
open RowKit
def LM(r:Nat)(h:r<128):(decide (0<=Lib.indexByte [61,58] r.toUInt8))= !(dh r.toUInt8):=by
 have:∀b:Fin 128,(decide (0<=Lib.indexByte [61,58] b.val.toUInt8))= !(dh b.val.toUInt8):=by decide
 exact this ⟨r,h⟩
def Ml:l.toNat.toUInt8=l:=by simp
def Em(h:l.toNat<128):
 Calls prog 251 #[.string ⟨#[61,58]⟩,.int .i32 l.toNat] i λe b=>∃q:Int,e=.returned (ι q)/\(decide (0<=q)= !dh l)/\i=b:=by refine(Any.strings_IndexRune_ascii Tryz.VO ⟨#[61,58]⟩ l.toNat i (by omega) (by omega)).mono ?_;rintro e b⟨rfl,rfl⟩;refine⟨_,rfl,?_,rfl⟩;have:=LM l.toNat h;rw[Ml]at this;rw[<-this];simp
def yc:[61,58].contains l= !(dh l):=by simp only[dh,Zk,adm,X2,Bool.not_not]
def Nl(h:128<=l.toNat):dh l=true:=by simp only[dh,R4,Y_,Yi];exact⟨λe=>by subst e;simp at h,λe=>by subst e;simp at h⟩
def PB(s:aA)(c:Nat)(f:c<s.size)(l:128<=(s[c]'f).toNat)(h:Lib.NoAny s.data.toList [61,58] c):
 Lib.NoAny s.data.toList [61,58] (c+(Utf8.decode s c).2):=λd b n e=>by
 by_cases j:d<c
 ·exact h d b j e
 have⟨i,g⟩:=AJ s c f l (d-c) (by omega);rw[show c+(d-c)=d from by omega]at i g;rw[By s d i]at e;cases e;rw[yc,Nl g];rfl
def Pp(s:aA)(b:Nat):(Utf8.decode s b).1<=1114111:=by
 rw[Lib.decode_at];unfold Lib.decodeN
 repeat' split
 all_goals(simp only;omega)
def LZ(s:aA)(w:ay)(Q:s.size<=8):
 Calls prog 213 #[.string s,.string ⟨#[61,58]⟩] w λe G=>e=.returned (ι (Lib.indexAny s.data.toList [61,58]))/\μ w G:=by
 go_in;go_wp2_with (go_at_call 252;go_in)
 go_loopw [9,10] (λ_ _ wr=>∃c:Nat,wr.heap[w.heap.size]?=some (.stringIter s c)/\Below w.heap.size w wr/\Lib.NoAny s.data.toList [61,58] c) (λ_ _ wr=>s.size-wr.iterPos w.heap.size)
 case atStart=>exact⟨0,by simpa using afr w s 0,ak w _,Lib.NoAny.zero _ _⟩
 obtain⟨c,a,B,A⟩:=hrel;have:=(X8.1 a).1;by_cases d:c<s.size
 ·have v:∀g,(Instr.next (π w.heap.size) true g).run prog wr=_:=λg=>adY wr w.heap.size s c g a d;have x:=By s c d;rw[EM s c d]at x;have F:=aC x;have E:=Hs s c d;have i:=afs wr w.heap.size s c (c+(Utf8.decode s c).2) a;have h:=aeZ B (k:=w.heap.size) ax s (c+(Utf8.decode s c).2);have y:w.heap.size<(wr.iterAt w.heap.size s (c+(Utf8.decode s c).2)).heap.size:=by rw[Lib.iterAt_size];omega
  by_cases o:(s[c]'d).toNat<128
  ·rw[ad6 s c d o]at v i h y E;simp only at v i h y E;cases l:dh (s[c]'d) with
   |true=>
    go_wp2_with fail
    refine(Em o).mono ?_;rintro e j⟨q,rfl,f,rfl⟩;have J:q<0:=by rw[l]at f;simpa using f
    go_wp2_with fail
    refine⟨⟨c+1,i,h,A.succ F (by rw[yc,l];rfl)⟩,?_⟩;simp only[World.iterPos,i,a];omega
   |false=>
    go_wp2_with fail
    refine(Em o).mono ?_;rintro e j⟨q,rfl,f,rfl⟩;have J:0<=q:=by rw[l]at f;simpa using f
    go_wp2_with fail
    go_ret;exact⟨sW (Lib.indexAny_hit A F (by rw[yc,l];rfl)).symm,h⟩
  have D:128<=(s[c]'d).toNat:=by omega
  have:=(aew s c d D).1;have:=Pp s c;go_wp2_with fail
  refine(L6 (by omega) (by omega)).mono ?_;rintro e j⟨rfl,p⟩;have C:=(p.block _ y).trans i;have L:=h.trans (p.mono (by omega));go_wp2_with fail
  refine⟨⟨_,C,L,PB s c d D A⟩,?_⟩;simp only[World.iterPos,C,a];omega
 have v:∀g,(Instr.next (π w.heap.size) true g).run prog wr=_:=λg=>adZ wr w.heap.size s c g a d;go_wp2_with fail
 go_ret;refine⟨sW (Lib.indexAny_none ?_).symm,B⟩;intro I b R H;exact A I b (by have:=YJ s;omega) H
def Et(g:h.size<=4294967200):
 γ 213 #[.string h,.string ⟨#[61,58]⟩] i (ι (Lib.indexAny h.data.toList [61,58])):=by
 by_cases f:h.size<=8
 ·exact LZ h i f
 have d:(Tryz.prog.info? (Tryz.iV.t 116)).map (λc=>(c.zero,c.size))=some (some (.agg (Array.replicate 256 (.bool false))),256):=by kernel_rfl
 refine(Any.strings_IndexAny_long Tryz.VF (zero_of_info d).1 (zero_of_info d).2 h ⟨#[61,58]⟩ i (by decide) (by omega) (by omega) (by decide) (afi (by decide))).mono ?_;rintro e b⟨rfl,rfl⟩;exact⟨rfl,(ak i _).alloc (by simp) _⟩
theorem Ej:∀c:hU,(Lib.indexAny c [61,58]= -1/\(c.dropWhile dh)=[])\/(Lib.indexAny c [61,58]=(c.takeWhile dh).length/\(c.dropWhile dh)≠[])
 |[]=> .inl ⟨rfl,rfl⟩
 |b::r=>by
  rw[Lib.indexAny,yc,ZT,ZF];cases g:dh b with
  |false=>exact .inr (by simp)
  |true=>
   simp only[adE,YN,Z4,Z8];obtain⟨e,d⟩|⟨e,d⟩:=Ej r
   ·rw[e];exact .inl ⟨rfl,d⟩
   rw[e];have f:(((r.takeWhile dh).length:Int)== -1)=false:=by rw[Yi];omega
   rw[f];exact .inr ⟨by simp,d⟩
def kA(r:Ln×Nat):az:=.tuple #[dQ r.1,ι r.2]
def LS(h:d.dropWhile dh=[]):gG d=(Ln.zero,1):=by unfold gG;rw[h];rfl
def Dm:dQ Ln.zero=.agg #[ι 0,ι 0,ε,ε]:=rfl
def L_(s:aA)(T:s.size<=4294967200):
 Calls prog 163 #[.string s] i λe w'=>e=.returned (kA (gG s.data.toList))/\μ i w':=by
 obtain⟨c,b⟩|⟨c,b⟩:=Ej s.data.toList
 ·have HR:=aC (LS b);have w:=aC c;clear c b;go_in;go_wp2_with (go_at_call 213;refine(Et T).mono ?_;rintro e r⟨rfl,E⟩;rw[w.u];have⟨hc,hf⟩:=KN E)
  refine Yw (v:=kA (gG s.data.toList)) ?_ rfl ⟨rfl,qt (rm E) ax _ _ _ _⟩;rw[HR.u];simp[results,results163,go_sem,hc,kA,Dm]
 obtain⟨n,g⟩:∃n,n=(s.data.toList.takeWhile dh).length:=⟨_,rfl⟩;rw[<-g]at c;have N:=YJ s;have:n<s.size:=by have d:=Yg List.length (aa2 (p:=dh) (l:=s.data.toList));rw[X4]at d;have:=Y5.2 b;omega
 have w:=aC c;have B:(s.extract n s.size).data.toList=s.data.toList.dropWhile dh:=by
  rw[ZQ,g];have d:=aa2 (p:=dh) (l:=s.data.toList)
  conv=>lhs;arg 2;rw[<-d]
  exact adl
 have D:(s.extract 0 n).data.toList=s.data.toList.takeWhile dh:=by
  rw[tv,n',ad4,g];have d:=aa2 (p:=dh) (l:=s.data.toList)
  conv=>lhs;arg 2;rw[<-d]
  exact acZ
 have O:=aC B;have m:=aC D;have R:=aC b;have ab:(s.extract n s.size).size=s.size-n:=by simp
 have ad:(s.extract 0 n).size=n:=by simp;omega
 clear c b g N B D;go_in;go_wp2_with fail
 refine(Et T).mono ?_;rintro e r⟨rfl,z⟩;rw[w.u];have C:=(lu.bq i 164 _ _ _ _).aD z;have S:=rm z;clear z;go_wp2_with fail
 refine(LV (by omega)).mono ?_;rintro e w2⟨rfl,x⟩;have M:=C.aD x;have Y:=S.tr x;clear x C S;unfold xg;rw[O.u];obtain⟨k,j⟩:∃k,k=(iG (s.data.toList.dropWhile dh)).1:=⟨_,rfl⟩;obtain⟨t,h⟩:∃t:hU,t=(iG (s.data.toList.dropWhile dh)).2:=⟨_,rfl⟩;rw[<-j,<-h];have aa:t.length<=4294967200:=by have:=GF (s.data.toList.dropWhile dh);have:=Eu dh s.data.toList;have:=YJ s;rw[h];omega
 have U:=aC j;have V:=aC h;clear j h;go_wp2_with fail
 refine(uP _ _ (by omega)).mono ?_;rintro e w3⟨rfl,A⟩;have Z:=M.aD A;have P:=Y.tr A;clear A M Y;rw[m.u];go_wp2_with fail
 refine(uP ⟨t.toArray⟩ _ (by rw[ea];omega)).mono ?_;rintro e q⟨rfl,y⟩;have F:=Z.aD y;have o:=P.tr y;clear y Z P;simp only;have a:Hid (gG s.data.toList=if fV k (Mk.cut (s.data.toList.takeWhile dh)) then(⟨0,k,Mk.cut (s.data.toList.takeWhile dh),Mk.cut t⟩,0) else(Ln.zero,1)):=by
  show _=_;unfold gG;have h8:(s.data.toList.dropWhile dh).isEmpty=false:=by simpa using R.u
  rw[h8,<-U.u,<-V.u];rfl
 generalize Mk.cut (s.data.toList.takeWhile dh)=L at*;generalize Mk.cut t=ac at*;clear U V R m O w ab ad aa;go_wp2_with fail
 refine(LF 0 k ⟨L.toArray⟩ ⟨ac.toArray⟩ _).mono ?_;rintro e w5⟨rfl,f⟩;have I:=(F.alloc _).aD f;have X:=(lu.bq q 164 _ _ _ _).aD f;have K:=o.trans ((rm f).mono o.size);clear f F o;simp only;have⟨⟨G,H,J,Q⟩,⟨f0,f1,f2,f3⟩⟩:=I.cells;obtain⟨⟨d0,d1,d2,d3⟩,-⟩:=X.cells;clear I X;cases W:fV k L with
 |true=>
  go_wp2_with fail
  refine Yw (v:=kA (gG s.data.toList)) ?_ rfl ⟨rfl,qt K ax _ _ _ _⟩;rw[a.u,W];simp[results,results163,go_sem,G,H,J,Q,kA,dQ]
 |false=>
  go_wp2_with fail
  refine Yw (v:=kA (gG s.data.toList)) ?_ rfl ⟨rfl,qt K ax _ _ _ _⟩;rw[a.u,W];simp[results,results163,go_sem,G,H,J,Q,kA,Dm]
def yr(c:UInt8)(b:hU):(Mk.bo c b).length<=b.length:=by unfold Mk.bo;exact(ab9 _).length_le
def PQ(s:aA)(w:ay)(W:s.size<=4294967200)(x:dq w):
 Calls prog 121 #[.string s] w λe S=>e=.returned (kA (bD s.data.toList))/\μ w S:=by
 cases i:List.isPrefixOf [9] s.data.toList with
 |true=>
  have j:Hid (bD s.data.toList=(oM s.data.toList,0)):=by show _=_;unfold bD;rw[i];rfl
  have y:=aC i;go_in;go_wp2_with fail
  refine(Fj s ⟨#[9]⟩).mono ?_;rintro e Q⟨rfl,rfl⟩;rw[show List.isPrefixOf (⟨#[9]⟩:aA).data.toList s.data.toList=true from y.u];go_wp2_with fail
  refine(LI).mono ?_;rintro e Z⟨rfl,p⟩;have Y:=(lu.bq w 164 _ _ _ _).aD p;have X:=rm p;have⟨⟨c,f,g,h⟩,⟨z,A,G,J⟩⟩:=Y.cells;unfold dQ;go_wp2_with fail
  refine Yw (v:=kA (bD s.data.toList)) ?_ rfl ⟨rfl,qt X ax _ _ _ _⟩;rw[j.u];simp[results,results121,go_sem,c,f,g,h,kA,dQ]
 |false=>
  obtain⟨b,l⟩:∃b,b=Mk.cut (Mk.bo 35 s.data.toList):=⟨_,rfl⟩;have:b.length<=4294967200:=by have:=s6 (Mk.bo 35 s.data.toList);have:=yr 35 s.data.toList;have:=YJ s;rw[l];omega
  have R:(⟨(Mk.bo 35 s.data.toList).toArray⟩:aA).size<=4294967296:=by have:=yr 35 s.data.toList;have:=YJ s;rw[ea];omega
  have j:Hid (bD s.data.toList=if b.isEmpty then(Ln.zero,0) else if jf b then lU (Mk.cut (b.drop 7)) else gG b):=by show _=_;unfold bD;rw[i,l];rfl
  have y:=aC i;have a:=aC l;clear i l;go_in;go_wp2_with fail
  refine(Fj s ⟨#[9]⟩).mono ?_;rintro e Q⟨rfl,rfl⟩;rw[show List.isPrefixOf (⟨#[9]⟩:aA).data.toList s.data.toList=false from y.u];go_wp2_with fail
  refine(vJ 35 s _ W (x.aD (ak w _))).mono ?_;rintro e Z⟨rfl,F⟩;have M:=(lu.bq w 164 _ _ _ _).aD F;have P:=rm F;clear F x;generalize after 35 s.data.toList=q;generalize Mk.has 35 s.data.toList=r;go_wp2_with fail
  refine(uP _ _ R).mono ?_;rintro e m⟨rfl,K⟩;have L:=M.aD K;have E:=P.tr K;rw[show Mk.cut (⟨(Mk.bo 35 s.data.toList).toArray⟩:aA).data.toList=b from a.u.symm];generalize (⟨(Mk.bo 35 s.data.toList).toArray⟩:aA)=B at*;cases H:b.isEmpty with
  |true=>
   have⟨⟨c,f,g,h⟩,⟨z,A,G,J⟩⟩:=L.cells;go_wp2_with fail
   refine Yw (v:=kA (bD s.data.toList)) ?_ rfl ⟨rfl,qt E ax _ _ _ _⟩;rw[j.u,H];simp[results,results121,go_sem,c,f,g,h,kA,Dm]
  |false=>
   go_wp2_with fail
   refine(LL ⟨b.toArray⟩ (by rw[ea];omega)).mono ?_;rintro e k⟨rfl,I⟩;have o:=L.aD I;have n:=E.tr I;unfold uO;simp only;cases O:jf b with
   |true=>
    go_wp2_with fail
    refine(LH ⟨(Mk.cut (b.drop 7)).toArray⟩).mono ?_;rintro e U⟨rfl,d⟩;have C:=o.aD d;have D:=n.tr d;clear d o n;have⟨⟨c,f,g,h⟩,⟨z,A,G,J⟩⟩:=C.cells;unfold dQ;go_wp2_with fail
    refine Yw (v:=kA (bD s.data.toList)) ?_ rfl ⟨rfl,qt D ax _ _ _ _⟩;rw[j.u,H,O];simp[results,results121,go_sem,c,f,g,h,kA,dQ]
   |false=>
    go_wp2_with fail
    refine(L_ ⟨b.toArray⟩ (by rw[ea];omega)).mono ?_;rintro e U⟨rfl,d⟩;have C:=o.aD d;have D:=n.tr d;clear d o n;have⟨⟨c,f,g,h⟩,⟨z,A,G,J⟩⟩:=C.cells;unfold kA dQ;go_wp2_with fail
    refine Yw (v:=kA (bD s.data.toList)) ?_ rfl ⟨rfl,qt D ax _ _ _ _⟩;rw[j.u,H,O];simp[results,results121,go_sem,c,f,g,h,kA,dQ]
def Sq(n:Nat):rZ n=jI n:=by rw[ZE];simp[rZ,jI];omega
def MT(w:ay):PredAt prog 212 #[] encR jI w:=λW x _=>by refine(Ae x W).mono ?_;rintro e b⟨rfl,rfl⟩;exact⟨kz (Sq x),0,rfl⟩
def QA(s:aA)(w:ay)(f:s.size<=4294967296):
 Calls prog 166 #[.string s] w λe b=>∃A,e=.returned (ξ A (Lib.goFieldsP jI s).length (Lib.goFieldsP jI s).length)/\
  b.ownsRow w.heap.size 9 1 (ξ A (Lib.goFieldsP jI s).length (Lib.goFieldsP jI s).length) (Lib.goFieldsP jI s).length ((Lib.goFieldsP jI s).map Value.string)/\μ w b:=by
 have g:=Any.strings_FieldsFunc Tryz.V9 212 #[] (mL func212 (by kernel_rfl) rfl) jI s w f (MT w) (by kernel_rfl) (by kernel_rfl);go_in;go_wp2_with (go_at_call 216;refine g.mono ?_;rintro e h⟨A,rfl,-,c,d⟩)
 go_ret;exact⟨A,rfl,c,d⟩



end


