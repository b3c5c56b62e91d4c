/- . -/
import Derived.Test.YtjelacjggijmfaaGreatDoorYPWr
set_option maxRecDepth 1000000
set_option maxHeartbeats 4000000
namespace Go.Proofs.YtjelacjggijmfaaGreatDoor
open Pl Mk Cp Proofs.Tryz
open RowKit
theorem JF (s:az)(c:Int)(w:ax)(h:s.size=0):
 Calls prog 278 #[.string s,.int .u8 c] w λe a=>e= .returned (.int .i64 (-1))/\a =w:=by
 refine(Any.strings_IndexByte Tryz.Rh s c w).mono ?_;rintro e a ⟨rfl,rfl⟩;have:s.data.toList=[]:=by rw[WI,<-Uf];exact h
 rw[this];exact⟨rfl,rfl⟩
theorem Jp (a:Int)(w:ax)(y:128<=a)(G:a<=1114111):
 Calls prog 251 #[.string ⟨#[61,58]⟩,.int .i32 a] w λe x=>e= .returned (.int .i64 (-1))/\Below w.heap.size w x :=by
 by_cases d:a=65533
 ·subst d;go_enter Xu,ntmps251;go_wp2_with fail
  go_loopw [5,6] (λ_ _ wr=>∃b:Nat,b<=2/\wr.heap[w.heap.size]?=some (.stringIter ⟨#[61,58]⟩ b)/\Below w.heap.size w wr) (λ_ _ wr=>2-wr.iterPos w.heap.size)
  case atStart=>exact⟨0,by omega,by simpa using aaK w ⟨#[61,58]⟩ 0,aj w _⟩
  case round=>
   obtain⟨b,D,hit,f⟩:=hrel;by_cases l:b<2
   ·have m:∀c,(Instr.next (.pointer (some ⟨w.heap.size,0,none⟩)) true c).run prog wr=_:=λc=>Zj wr w.heap.size ⟨#[61,58]⟩ b c hit l;have r:(Utf8.decode ⟨#[61,58]⟩ b).2=1/\(((Utf8.decode ⟨#[61,58]⟩ b).1:Int)==65533)=false:=by rcases(by omega:b=0\/b=1) with rfl|rfl<;>decide
    obtain⟨i,A⟩:=r;have h:=aaL wr w.heap.size ⟨#[61,58]⟩ b (b+1) hit;have z:=aaj f (k:=w.heap.size) ak ⟨#[61,58]⟩ (b+1);rw[i] at m;clear i;go_wp2_with fail
    refine⟨⟨b+1,by omega,h,z⟩,?_⟩;simp only[World.iterPos,h,hit];omega
   ·have m:∀c,(Instr.next (.pointer (some ⟨w.heap.size,0,none⟩)) true c).run prog wr=_:=λc=>Zk wr w.heap.size ⟨#[61,58]⟩ b c hit l;go_wp2_with fail
    go_ret;exact⟨rfl,f⟩
 have B :(a==65533)=false:=by simpa using d
 have H:=aB d;clear d;cases u:Lib.validRune a with
 |false=>
  go_enter Xu,ntmps251;go_wp2_with fail
  refine(Any.utf8_ValidRune Tryz.Hw _ _).mono ?_;rintro e v ⟨rfl,rfl⟩;go_wp2_with fail
  go_ret;exact⟨rfl,TF _ _⟩
 |true=>
  have g:Utf8.valid a=true:=by rw[validRune_eq];exact u
  obtain⟨C,F,o⟩:=encode_facts a g y;have j:(Utf8.encode a).size-1<(Utf8.encode a).size:=by omega
  have p:=o j;clear o g;go_enter Xu,ntmps251;go_wp2_with fail
  refine(Any.utf8_ValidRune Tryz.Hw _ _).mono ?_;rintro e v ⟨rfl,rfl⟩;by_cases E:(Utf8.encode a).size=2
  ·have I:((((⟨#[61,58]⟩:az)[1]'(by decide)).toNat:Int) !=((Utf8.encode a)[1]'(by omega)).toNat)=true:=by
    have q:((Utf8.encode a)[(Utf8.encode a).size-1]'j)=(Utf8.encode a)[1]'(by omega):=by congr 1;omega
    rw[q] at p;rw[UY];show((58:Nat):Int)≠_;omega
   go_wp2_with fail
   go_step3
   go_wp2_with fail
   refine WX 1 ?_;rw[Wl];go_wp2_with fail
   go_step3
   go_wp2_with fail
   go_region
   go_wp2_with fail
   go_region_with (go_at_call 278;refine(JF _ _ _ (by simp)).mono ?_;rintro e J ⟨rfl,rfl⟩)
   all_goals go_wp2_with fail
   all_goals rw[aaM]
   all_goals simp only[Exit.inBlock,Exit.then]
   all_goals rw[aaM]
   all_goals go_ret
   all_goals exact⟨rfl,by repeat (first|exact TF _ _|refine Below.drew ?_)⟩
  ·go_wp2_with fail
   go_step3
   go_wp2_with fail
   refine WX 1 ?_;rw[Wl];go_wp2_with fail
   rw[aaM];go_ret;exact⟨rfl,TF _ _⟩
theorem Jc (a:Nat)(h:a<128):(decide (0<=Lib.indexByte [61,58] a.toUInt8))= !(cU a.toUInt8):=by
 have:∀b:Fin 128,(decide (0<=Lib.indexByte [61,58] b.val.toUInt8))= !(cU b.val.toUInt8):=by decide
 exact this ⟨a,h⟩
theorem JC (c:UInt8):c.toNat.toUInt8=c:=by simp
theorem Bz (c:UInt8)(w:ax)(h:c.toNat<128):
 Calls prog 251 #[.string ⟨#[61,58]⟩,.int .i32 c.toNat] w λe a=>∃q:Int,e= .returned (.int .i64 q)/\(decide (0<=q)= !cU c)/\w=a :=by refine(Any.strings_IndexRune_ascii Tryz.Rk ⟨#[61,58]⟩ c.toNat w (by omega) (by omega)).mono ?_;rintro e a ⟨rfl,rfl⟩;refine⟨_,rfl,?_,rfl⟩;have:=Jc c.toNat h;rw[JC] at this;rw[<-this];simp
theorem vQ (c:UInt8):[61,58].contains c= !(cU c):=by simp only[cU,UL,YH,XD,Bool.not_not]
theorem Km (c:UInt8)(h:128<=c.toNat):cU c=true:=by simp only[cU,Xc,UD,TQ];exact⟨λe=>by subst e;simp at h,λe=>by subst e;simp at h⟩
theorem L8 (s:az)(a:Nat)(e:a<s.size)(j:128<=(s[a]'e).toNat)(h:Lib.NoAny s.data.toList [61,58] a):
 Lib.NoAny s.data.toList [61,58] (a+(Utf8.decode s a).2):=λc b l d=>by
 by_cases i:c<a
 ·exact h c b i d
 ·obtain⟨g,f⟩:=yH s a e j (c-a) (by omega);rw[show a+(c-a)=c from by omega] at g f;rw[zn s c g] at d;cases d;rw[vQ,Km _ f];rfl
theorem LQ (s:az)(a:Nat):(Utf8.decode s a).1<=1114111:=by
 rw[Lib.decode_at];unfold Lib.decodeN
 repeat' split
 all_goals(simp only;omega)
theorem Jn (s:az)(w:ax)(O:s.size<=8):
 Calls prog 213 #[.string s,.string ⟨#[61,58]⟩] w λe E=>e= .returned (.int .i64 (Lib.indexAny s.data.toList [61,58]))/\Below w.heap.size w E :=by
 go_enter func213,ntmps213;go_wp2_with (go_at_call 252;go_in)
 go_loopw [9,10] (λ_ _ wr=>∃a:Nat,wr.heap[w.heap.size]?=some (.stringIter s a)/\Below w.heap.size w wr/\Lib.NoAny s.data.toList [61,58] a) (λ_ _ wr=>s.size-wr.iterPos w.heap.size)
 case atStart=>exact⟨0,by simpa using aaK w s 0,aj w _,Lib.NoAny.zero _ _⟩
 case round=>
  obtain⟨a,hit,z,y⟩:=hrel;have l:=aB y;clear y;have L:w.heap.size<wr.heap.size:=(TN.1 hit).1;by_cases c:a<s.size
  ·have p:∀f,(Instr.next (.pointer (some ⟨w.heap.size,0,none⟩)) true f).run prog wr=_:=λf=>Zj wr w.heap.size s a f hit c;have r:=zn s a c;rw[BY s a c] at r;have D:=aB r;clear r;have C:=EO s a c;have h:=aaL wr w.heap.size s a (a+(Utf8.decode s a).2) hit;have g:=aaj z (k:=w.heap.size) ak s (a+(Utf8.decode s a).2);have v:w.heap.size<(wr.iterAt w.heap.size s (a+(Utf8.decode s a).2)).heap.size:=by rw[Lib.iterAt_size];omega
   by_cases m:(s[a]'c).toNat<128
   ·have x:=Zq s a c m;rw[x] at p h g v C;simp only at p h g v C;clear x;cases j:cU (s[a]'c) with
    |true=>
     go_wp2_with fail
     refine(Bz _ _ m).mono ?_;rintro e i ⟨q,rfl,d,rfl⟩;have H :q<0:=by rw[j] at d;simpa using d
     clear d;go_wp2_with fail
     refine⟨⟨a+1,h,g,l.u.succ D.u (by rw[vQ,j];rfl)⟩,?_⟩;simp only[World.iterPos,h,hit];omega
    |false=>
     go_wp2_with fail
     refine(Bz _ _ m).mono ?_;rintro e i ⟨q,rfl,d,rfl⟩;have H :0<=q:=by rw[j] at d;simpa using d
     clear d;go_wp2_with fail
     go_ret;exact⟨sJ (Lib.indexAny_hit l.u D.u (by rw[vQ,j];rfl)).symm,g⟩
   ·have B:128<=(s[a]'c).toNat:=by omega
    have I:=aB (L8 s a c B l.u);have M:=(ZS s a c B).1;have K:=LQ s a;go_wp2_with fail
    refine(Jp _ _ (by omega) (by omega)).mono ?_;rintro e i ⟨rfl,o⟩;have A:i.heap[w.heap.size]?=some (.stringIter s (a+(Utf8.decode s a).2)):=(o.block _ v).trans h;have J:Below w.heap.size w i:=g.trans (o.mono (by omega));clear o g;go_wp2_with fail
    refine⟨⟨_,A,J,I.u⟩,?_⟩;simp only[World.iterPos,A,hit];omega
  ·have p:∀f,(Instr.next (.pointer (some ⟨w.heap.size,0,none⟩)) true f).run prog wr=_:=λf=>Zk wr w.heap.size s a f hit c;go_wp2_with fail
   go_ret;refine⟨sJ (Lib.indexAny_none ?_).symm,z⟩;intro G b Q F;exact l.u G b (by have:=Uf s;omega) F
theorem BC (s:az)(w:ax)(f:s.size<=4294967200):
 Calls prog 213 #[.string s,.string ⟨#[61,58]⟩] w λe a=>e= .returned (.int .i64 (Lib.indexAny s.data.toList [61,58]))/\Below w.heap.size w a :=by
 by_cases d:s.size<=8
 ·exact Jn s w d
 ·have c:(Tryz.prog.info? (Tryz.iz.t 116)).map (λb=>(b.zero,b.size))=some (some (.agg (Array.replicate 256 (.bool false))),256):=by kernel_rfl
  refine(Any.strings_IndexAny_long Tryz.Rc (zero_of_info c).1 (zero_of_info c).2 s ⟨#[61,58]⟩ w (by decide) (by omega) (by omega) (by decide) (aay (by decide))).mono ?_;rintro e a ⟨rfl,rfl⟩;exact⟨rfl,(aj w _).alloc (by simp) _⟩
theorem Bv:∀a:List UInt8,(Lib.indexAny a [61,58]= -1/\(a.dropWhile cU)=[])\/(Lib.indexAny a [61,58]=(a.takeWhile cU).length/\(a.dropWhile cU)≠[])
 |[]=> .inl ⟨rfl,rfl⟩
 |b::e=>by
  rw[Lib.indexAny,vQ,Vh,U9];cases g:cU b with
  |false=>exact .inr (by simp)
  |true=>
   simp only[aac,Uj,Vk,Vn];rcases Bv e with⟨d,c⟩|⟨d,c⟩
   ·rw[d];exact .inl ⟨rfl,c⟩
   ·rw[d];have f:(((e.takeWhile cU).length:Int)== -1)=false:=by rw[TQ];omega
    rw[f];exact .inr ⟨by simp,c⟩
def jN (a:Ln×Nat):ay:= .tuple #[dx a.1,.int .i64 a.2]
theorem Ji {a:List UInt8}(h:a.dropWhile cU=[]):fS a=(Ln.zero,1):=by unfold fS;rw[h];rfl
theorem AA:dx Ln.zero= .agg #[.int .i64 0,.int .i64 0,.string ⟨#[]⟩,.string ⟨#[]⟩]:=rfl
theorem Jt (s:az)(w:ax)(Q:s.size<=4294967200):
 Calls prog 163 #[.string s] w λe w'=>e= .returned (jN (fS s.data.toList))/\Below w.heap.size w w' :=by
 rcases Bv s.data.toList with⟨b,a⟩|⟨b,a⟩
 ·have HR:=aB (Ji a);have h:=aB b;clear b a;go_enter func163,ntmps163;go_wp2_with (go_at_call 213;refine(BC _ _ Q).mono ?_;rintro e w1 ⟨rfl,A⟩;rw[h.u];obtain⟨hc,hf⟩:=Ig A)
  refine Ua (v:=jN (fS s.data.toList)) ?_ rfl ⟨rfl,pd (pW A) ak _ _ _ _⟩;rw[HR.u];simp[results,results163,go_sem,hc,jN,AA]
 ·obtain⟨n,f⟩:∃n,n=(s.data.toList.takeWhile cU).length:=⟨_,rfl⟩;rw[<-f] at b;have ae:=Uf s;have af:n<s.size:=by have c:=TU List.length (Wy (p:=cU) (l:=s.data.toList));rw[TE] at c;have h4:=Uy.2 a;omega
  have h:=aB b;have x:(s.extract n s.size).data.toList=s.data.toList.dropWhile cU:=by
   rw[VY,f];have c:=Wy (p:=cU) (l:=s.data.toList)
   conv=>lhs;arg 2;rw[<-c]
   exact YG
  have z:(s.extract 0 n).data.toList=s.data.toList.takeWhile cU:=by
   rw[Wj,V4,Zo,f];have c:=Wy (p:=cU) (l:=s.data.toList)
   conv=>lhs;arg 2;rw[<-c]
   exact YF
  have I:=aB x;have Y:=aB z;have M:=aB a;have ab:(s.extract n s.size).size=s.size-n:=by simp
  have ad:(s.extract 0 n).size=n:=by simp;omega
  clear b a f ae x z;go_enter func163,ntmps163;go_wp2_with fail
  refine(BC _ _ Q).mono ?_;rintro e w1 ⟨rfl,q⟩;rw[h.u];have y:=(ka.bA w 164 _ _ _ _).aE q;have O :=pW q;clear q;go_wp2_with fail
  refine(Jj _ _ (by omega)).mono ?_;rintro e w2 ⟨rfl,m⟩;have H:=y.aE m;have V :=O.tr m;clear m y O;unfold uJ;rw[I.u];obtain⟨k,i⟩:∃k,k=(gX (s.data.toList.dropWhile cU)).1:=⟨_,rfl⟩;obtain⟨t,g⟩:∃t:List UInt8,t=(gX (s.data.toList.dropWhile cU)).2:=⟨_,rfl⟩;rw[<-i,<-g];have aa:t.length<=4294967200:=by have h5:=D8 (s.data.toList.dropWhile cU);have h6:=BD cU s.data.toList;have h7:=Uf s;rw[g];omega
  have R:=aB i;have S:=aB g;clear i g;go_wp2_with fail
  refine(sR _ _ (by omega)).mono ?_;rintro e w3 ⟨rfl,r⟩;have W:=H.aE r;have J :=V.tr r;clear r H V;rw[Y.u];go_wp2_with fail
  refine(sR ⟨t.toArray⟩ _ (by rw[eh];omega)).mono ?_;rintro e Z ⟨rfl,o⟩;have B:=W.aE o;have j :=J.tr o;clear o W J;simp only;have X:Hid (fS s.data.toList=if fq k (Mk.cut (s.data.toList.takeWhile cU)) then(⟨0,k,Mk.cut (s.data.toList.takeWhile cU),Mk.cut t⟩,0) else(Ln.zero,1)):=by
   show _=_;unfold fS;have h8:(s.data.toList.dropWhile cU).isEmpty=false:=by simpa using M.u
   rw[h8,<-R.u,<-S.u];rfl
  generalize Mk.cut (s.data.toList.takeWhile cU)=L at*;generalize Mk.cut t=ac at*;clear R S M Y I h ab ad aa;go_wp2_with fail
  refine(I8 0 k ⟨L.toArray⟩ ⟨ac.toArray⟩ _).mono ?_;rintro e w5 ⟨rfl,d⟩;have E:=(B.alloc _).aE d;have U:=(ka.bA Z 164 _ _ _ _).aE d;have G :=j.trans ((pW d).mono j.size);clear d B j;simp only;obtain⟨⟨C,D,F,K⟩,⟨f0,f1,f2,f3⟩⟩:=E.cells;obtain⟨⟨d0,d1,d2,d3⟩,-⟩:=U.cells;clear E U;cases T:fq k L with
  |true=>
   go_wp2_with fail
   refine Ua (v:=jN (fS s.data.toList)) ?_ rfl ⟨rfl,pd G ak _ _ _ _⟩;rw[X.u,T];simp[results,results163,go_sem,C,D,F,K,jN,dx]
  |false=>
   go_wp2_with fail
   refine Ua (v:=jN (fS s.data.toList)) ?_ rfl ⟨rfl,pd G ak _ _ _ _⟩;rw[X.u,T];simp[results,results163,go_sem,C,D,F,K,jN,AA]
theorem wv (c:UInt8)(a:List UInt8):(Mk.bj c a).length<=a.length:=by unfold Mk.bj;exact(XH _).length_le
theorem Mo (s:az)(w:ax)(V:s.size<=4294967200)(p:c_ w):
 Calls prog 121 #[.string s] w λe R=>e= .returned (jN (br s.data.toList))/\Below w.heap.size w R :=by
 cases h:List.isPrefixOf [9] s.data.toList with
 |true=>
  have i:Hid (br s.data.toList=(nk s.data.toList,0)):=by show _=_;unfold br;rw[h];rfl
  have r:=aB h;clear h p;go_enter func121,ntmps121;go_wp2_with fail
  refine(Cv s ⟨#[9]⟩ _).mono ?_;rintro e O ⟨rfl,rfl⟩;rw[show List.isPrefixOf (⟨#[9]⟩:az).data.toList s.data.toList=true from r.u];go_wp2_with fail
  refine(I' _ _).mono ?_;rintro e Y ⟨rfl,o⟩;have X:=(ka.bA w 164 _ _ _ _).aE o;have W :=pW o;clear o;obtain⟨⟨b,d,f,g⟩,⟨x,y,E,H⟩⟩:=X.cells;unfold dx;go_wp2_with fail
  refine Ua (v:=jN (br s.data.toList)) ?_ rfl ⟨rfl,pd W ak _ _ _ _⟩;rw[i.u];simp[results,results121,go_sem,b,d,f,g,jN,dx]
 |false=>
  obtain⟨a,j⟩:∃a,a=Mk.cut (Mk.bj 35 s.data.toList):=⟨_,rfl⟩;have aa:a.length<=4294967200:=by have h1:=q_ (Mk.bj 35 s.data.toList);have S:=wv 35 s.data.toList;have U:=Uf s;rw[j];omega
  have Q:(⟨(Mk.bj 35 s.data.toList).toArray⟩:az).size<=4294967296:=by have S:=wv 35 s.data.toList;have U:=Uf s;rw[eh];omega
  have i:Hid (br s.data.toList=if a.isEmpty then(Ln.zero,0) else if iJ a then kF (Mk.cut (a.drop 7)) else fS a):=by show _=_;unfold br;rw[h,j];rfl
  have r:=aB h;have Z:=aB j;clear h j;go_enter func121,ntmps121;go_wp2_with fail
  refine(Cv s ⟨#[9]⟩ _).mono ?_;rintro e O ⟨rfl,rfl⟩;rw[show List.isPrefixOf (⟨#[9]⟩:az).data.toList s.data.toList=false from r.u];go_wp2_with fail
  refine(tF 35 s _ V (p.aE (aj w _))).mono ?_;rintro e Y ⟨rfl,D⟩;have K:=(ka.bA w 164 _ _ _ _).aE D;have M :=pW D;clear D p;generalize bQ 35 s.data.toList=q;generalize Mk.has 35 s.data.toList=q2;go_wp2_with fail
  refine(sR _ _ Q).mono ?_;rintro e w3 ⟨rfl,I⟩;have J:=K.aE I;have C :=M.tr I;clear I K M;rw[show Mk.cut (⟨(Mk.bj 35 s.data.toList).toArray⟩:az).data.toList=a from Z.u.symm];generalize (⟨(Mk.bj 35 s.data.toList).toArray⟩:az)=B at*;cases F:a.isEmpty with
  |true=>
   obtain⟨⟨b,d,f,g⟩,⟨x,y,E,H⟩⟩:=J.cells;go_wp2_with fail
   refine Ua (v:=jN (br s.data.toList)) ?_ rfl ⟨rfl,pd C ak _ _ _ _⟩;rw[i.u,F];simp[results,results121,go_sem,b,d,f,g,jN,AA]
  |false=>
   go_wp2_with fail
   refine(Jb ⟨a.toArray⟩ _ (by rw[eh];omega)).mono ?_;rintro e w4 ⟨rfl,G⟩;have m:=J.aE G;have l :=C.tr G;clear G J C;unfold sQ;simp only;cases L:iJ a with
   |true=>
    go_wp2_with fail
    refine(I_ ⟨(Mk.cut (a.drop 7)).toArray⟩ _).mono ?_;rintro e T ⟨rfl,c⟩;have z:=m.aE c;have A :=l.tr c;clear c m l;obtain⟨⟨b,d,f,g⟩,⟨x,y,E,H⟩⟩:=z.cells;unfold dx;go_wp2_with fail
    refine Ua (v:=jN (br s.data.toList)) ?_ rfl ⟨rfl,pd A ak _ _ _ _⟩;rw[i.u,F,L];simp[results,results121,go_sem,b,d,f,g,jN,dx]
   |false=>
    go_wp2_with fail
    refine(Jt ⟨a.toArray⟩ _ (by rw[eh];omega)).mono ?_;rintro e T ⟨rfl,c⟩;have z:=m.aE c;have A :=l.tr c;clear c m l;obtain⟨⟨b,d,f,g⟩,⟨x,y,E,H⟩⟩:=z.cells;unfold jN dx;go_wp2_with fail
    refine Ua (v:=jN (br s.data.toList)) ?_ rfl ⟨rfl,pd A ak _ _ _ _⟩;rw[i.u,F,L];simp[results,results121,go_sem,b,d,f,g,jN,dx]
theorem OC (n:Nat):qn n=jb n:=by rw[U3];simp[qn,jb];omega
theorem J3 (w:ax):PredAt prog 212 #[] encR jb w:=λW x _=>by refine(yl x W).mono ?_;rintro e a ⟨rfl,rfl⟩;exact⟨ko (OC x),0,rfl⟩
theorem M0 (s:az)(w:ax)(d:s.size<=4294967296):
 Calls prog 166 #[.string s] w λe a=>∃A,e= .returned (.slice (some ⟨A,0,none⟩) (Lib.goFieldsP jb s).length (Lib.goFieldsP jb s).length)/\
  a.ownsRow w.heap.size 9 1 (.slice (some ⟨A,0,none⟩) (Lib.goFieldsP jb s).length (Lib.goFieldsP jb s).length) (Lib.goFieldsP jb s).length ((Lib.goFieldsP jb s).map Value.string)/\Below w.heap.size w a :=by
 have f:=Any.strings_FieldsFunc Tryz.RN 212 #[] (Yi func212 (by kernel_rfl) rfl) jb s w d (J3 w) (by kernel_rfl) (by kernel_rfl);go_enter func166,ntmps166;go_wp2_with (go_at_call 216;refine f.mono ?_;rintro e g ⟨A,rfl,-,b,c⟩)
 go_ret;exact⟨A,rfl,b,c⟩
end Go.Proofs.YtjelacjggijmfaaGreatDoor
namespace Go.Cp
open Pl Mk Cp Proofs.Tryz
theorem FH {c:UInt8}{t:Bs}(h:Mk.has c t=true):(bQ c t).length<t.length:=by
 induction t with
 |nil=>cases h
 |cons x a b=>
  unfold bQ;by_cases e:(x==c)=true
  ·rw[List.dropWhile_cons_of_neg (by rw[e];simp)];simp
  ·rw[List.dropWhile_cons_of_pos (by simpa using e)];have d:Mk.has c a=true:=by
    unfold Mk.has at h⊢;rw[UL] at h;have:(c==x)=false:=by rw[TQ];intro q;exact e (by rw[q];exact beq_self_eq_true _)
    rw[this,VV] at h;exact h
   have:=b d;unfold bQ at this;simp only[TK];omega
theorem wu (a:Bs)(k:Nat):(gC a k).bq=k:=by unfold gC;split<;>rfl
theorem zb (N:Bs->Nv)(sg:UInt8->Option Bs):∀(n k:Nat),301-k<=n->∀(j:Nat) (t:Bs),t.length<=j->∀(m:List Bs) (a:Bs),∃d,bM N sg m k a t d/\k<=d.bq:=by
 intro n;induction n with
 |zero=>
  intro k F j;induction j with
  |zero=>intro t z m a;have:t=[]:=UH.1 (by omega);subst this;exact⟨_,bM.nH rfl,by rw[wu];exact TD _⟩
  |succ j u=>
   intro t z m a;cases e:Mk.has 36 t with
   |false=>exact⟨_,bM.nH e,by rw[wu];exact TD _⟩
   |true=>
    have y:=FH e;cases f:bQ 36 t with
    |nil=>exact⟨_,bM.nil e f,TD _⟩
    |cons c b=>
     rw[f,TK] at y;by_cases l:c=36
     ·subst l;obtain⟨d,g,h⟩:=u b (by omega) m (da (da a (Mk.bj 36 t)) [36]);exact⟨d,bM.xl e f g,h⟩
     ·by_cases o:c=40
      ·subst o;by_cases i:Mk.has 41 b=false\/eo (Mk.bj 41 b)=false
       ·exact⟨_,bM.gS e f i,TD _⟩
       ·have w:Mk.has 41 b=true:=by
         cases q:Mk.has 41 b with
         |true=>rfl|false=>exact absurd (.inl q) i
        have x:eo (Mk.bj 41 b)=true:=by
         cases q:eo (Mk.bj 41 b) with
         |true=>rfl|false=>exact absurd (.inr q) i
        exact⟨⟨[],5,k+1⟩,(bM.pJ (r:=⟨[],5,k+1⟩) e f w x (.inl ⟨by omega,rfl⟩)).1 (by simp),Ww _⟩
      ·cases r:sg c with
       |none=>exact⟨_,(bM.nG (r:=⟨[],1,k⟩) e f l o).1 r,TD _⟩
       |some p=>obtain⟨d,g,h⟩:=u b (by omega) m (da (da a (Mk.bj 36 t)) p);exact⟨d,(bM.nG e f l o).2 p r g,h⟩
 |succ n B=>
  intro k F j;induction j with
  |zero=>intro t z m a;have:t=[]:=UH.1 (by omega);subst this;exact⟨_,bM.nH rfl,by rw[wu];exact TD _⟩
  |succ j u=>
   intro t z m a;cases e:Mk.has 36 t with
   |false=>exact⟨_,bM.nH e,by rw[wu];exact TD _⟩
   |true=>
    have y:=FH e;cases f:bQ 36 t with
    |nil=>exact⟨_,bM.nil e f,TD _⟩
    |cons c b=>
     rw[f,TK] at y;by_cases l:c=36
     ·subst l;obtain⟨d,g,h⟩:=u b (by omega) m (da (da a (Mk.bj 36 t)) [36]);exact⟨d,bM.xl e f g,h⟩
     ·by_cases o:c=40
      ·subst o;by_cases i:Mk.has 41 b=false\/eo (Mk.bj 41 b)=false
       ·exact⟨_,bM.gS e f i,TD _⟩
       ·have w:Mk.has 41 b=true:=by
         cases q:Mk.has 41 b with
         |true=>rfl|false=>exact absurd (.inl q) i
        have x:eo (Mk.bj 41 b)=true:=by
         cases q:eo (Mk.bj 41 b) with
         |true=>rfl|false=>exact absurd (.inr q) i
        obtain⟨d,C,G⟩:∃d,qi N sg m k (Mk.bj 41 b) d/\k+1<=d.bq:=by
         by_cases v:300<k+1
         ·exact⟨⟨[],5,k+1⟩,.inl ⟨v,rfl⟩,TD _⟩
         ·cases A:(N (Mk.bj 41 b)).mQ with
          |false=>exact⟨⟨(N (Mk.bj 41 b)).aT,0,k+1⟩,.inr (.inr (.inr ⟨v,A,rfl⟩)),TD _⟩
          |true=>
           by_cases D:Mk.bj 41 b∈m
           ·exact⟨⟨[],4,k+1⟩,.inr (.inl ⟨v,A,D,rfl⟩),TD _⟩
           ·obtain⟨d,g,h⟩:=B (k+1) (by omega) _ (N (Mk.bj 41 b)).aT ak (m++[Mk.bj 41 b]) [];exact⟨d,.inr (.inr (.inl ⟨v,A,D,g⟩)),h⟩
        by_cases E:d.er=0
        ·obtain⟨q,g,h⟩:=B d.bq (by omega) _ (bQ 41 b) ak m (da (da a (Mk.bj 36 t)) d.bE);exact⟨q,(bM.pJ e f w x C).2 E q g,by omega⟩
        ·exact⟨_,(bM.pJ e f w x C).1 E,by show k<=d.bq;omega⟩
      ·cases r:sg c with
       |none=>exact⟨_,(bM.nG (r:=⟨[],1,k⟩) e f l o).1 r,TD _⟩
       |some p=>obtain⟨d,g,h⟩:=u b (by omega) m (da (da a (Mk.bj 36 t)) p);exact⟨d,(bM.nG e f l o).2 p r g,h⟩
def i_ (a b:Bs):Prop:=a=b\/(2000<a.length/\2000<b.length)
theorem i_.add {a b:Bs}(h:i_ a b)(c:Bs):i_ (da a c) (da b c):=by
 rcases h with rfl|⟨h1,h2⟩
 ·exact .inl rfl
 ·unfold da;rw[TJ (by omega),TJ (by omega)];exact .inr ⟨h1,h2⟩
theorem i_.jA {a b:Bs}(h:i_ a b)(k:Nat):gC a k=gC b k:=by
 rcases h with rfl|⟨h1,h2⟩
 ·rfl
 ·unfold gC;rw[TP h1,TP h2]
theorem i_.symm {a b:Bs}(h:i_ a b):i_ b a:=by
 rcases h with rfl|⟨h1,h2⟩
 ·exact .inl rfl
 ·exact .inr ⟨h2,h1⟩
theorem i_.cd (a b:Bs):i_ (da a b) (a++b):=by
 unfold da;split
 ·exact .inl rfl
 ·exact .inr ⟨by omega,by rw[TE];omega⟩
variable {g:Er}
section
variable {N:Bs->Nv} {sg:UInt8->Option Bs}
def expB (N:Bs->Nv)(sg:UInt8->Option Bs)(f:Nat)(m:List Bs)(k:Nat)(A:Bs)(h:Bool)(e:Bs):Option Er:=
 if h=false then some (gC A k) else
  match e with
  |[]=>some ⟨[],1,k⟩
  |c::a=>
   if c=36 then dU N sg f m k (da A [36]) a
   else if c=40 then
    if Mk.has 41 a=false\/eo (Mk.bj 41 a)=false then some ⟨[],1,k⟩
    else if 300<k+1 then some ⟨[],5,k+1⟩
    else if(N (Mk.bj 41 a)).mQ=true then
     if Mk.bj 41 a∈m then some ⟨[],4,k+1⟩
     else match dU N sg f (m++[Mk.bj 41 a]) (k+1) [] (N (Mk.bj 41 a)).aT with
      |none=>none
      |some b=>if b.er=0 then dU N sg f m b.bq (da A b.bE) (bQ 41 a) else some ⟨[],b.er,b.bq⟩
    else dU N sg f m (k+1) (da A (N (Mk.bj 41 a)).aT) (bQ 41 a)
   else match sg c with
    |none=>some ⟨[],1,k⟩
    |some d=>dU N sg f m k (da A d) a
theorem vU (f:Nat)(m:List Bs)(k:Nat)(a t:Bs):dU N sg (f+1) m k a t=expB N sg f m k (da a (Mk.bj 36 t)) (Mk.has 36 t) (bQ 36 t):=by rw[dU,expB.eq_def];rfl
theorem E' {f:Nat}(i:∀(m:List Bs) (k:Nat) (a b t:Bs),i_ a b->dU N sg f m k a t=dU N sg f m k b t)(m:List Bs)(k:Nat){A B:Bs}(g:i_ A B)(h:Bool)(j:Bs):expB N sg f m k A h j=expB N sg f m k B h j:=by
 unfold expB;rw[g.jA];split
 ·rfl
 ·cases j with|nil=>rfl|cons c d=>simp only;rw[i m k _ _ d (g.add [36]),i m (k+1) _ _ (bQ 41 d) (g.add _)];have o:∀e:Er,dU N sg f m e.bq (da A e.bE) (bQ 41 d)=dU N sg f m e.bq (da B e.bE) (bQ 41 d):=λe=>i m _ _ _ _ (g.add _);have p:∀l,dU N sg f m k (da A l) d=dU N sg f m k (da B l) d:=λl=>i m _ _ _ _ (g.add _);simp only[o,p]
theorem zv:∀(f:Nat) (m:List Bs) (k:Nat) (a b t:Bs),i_ a b->dU N sg f m k a t=dU N sg f m k b t
 |0,_,_,_,_,_,_=>rfl|f+1,m,k,a,b,t,h=>by rw[vU,vU];exact E' (zv f) m k (h.add _) _ _
theorem bM.aC {m:List Bs}{k:Nat}{a b t:Bs}(h:i_ a b)(d:bM N sg m k a t g):bM N sg m k b t g:=by obtain⟨f,c⟩:=d;exact⟨f,by rw[<-zv f m k a b t h];exact c⟩
theorem bM.u4 {m:List Bs}{k:Nat}{a t:Bs}{c:UInt8}(j:c≠36)(h:bM N sg m k (a++[c]) t g):bM N sg m k a (c::t) g:=by
 obtain⟨f,b⟩:=h;cases f with
 |zero=>cases b
 |succ f=>
  refine⟨f+1,?_⟩;rw[vU] at b⊢;have i:(c==36)=false:=by simpa using j
  have l:Mk.bj 36 (c::t)=c::Mk.bj 36 t:=by unfold Mk.bj;rw[U9,i];rfl
  have u:Mk.has 36 (c::t)=Mk.has 36 t:=by unfold Mk.has;rw[UL];rw[show ((36:UInt8)==c)=false by simpa using λe=>j e.symm,VV]
  have o:bQ 36 (c::t)=bQ 36 t:=by unfold bQ;rw[Vh,i];rfl
  rw[l,u,o];rw[E' (zv f) m k (B:=da (a++[c]) (Mk.bj 36 t)) ?_]
  ·exact b
  ·have r:=i_.cd a (c::Mk.bj 36 t);have d:=i_.cd (a++[c]) (Mk.bj 36 t);rw[Ub] at d;rcases r with e|⟨p,q⟩
   ·rw[e];exact d.symm
   ·rcases d with e|⟨p',q'⟩
    ·rw[e];exact .inr ⟨p,q⟩
    ·exact .inr ⟨p,p'⟩
theorem km (t:Bs):Mk.has 36 (36::t)=true/\Mk.bj 36 (36::t)=[]/\bQ 36 (36::t)=t:=by
 refine⟨?_,?_,?_⟩
 ·simp[Mk.has]
 ·simp[Mk.bj]
 ·simp[bQ]
theorem QD (a:Bs)(k:Nat):(gC a k).bq=k/\((gC a k).er=0->(gC a k).bE.length<=2000):=by
 unfold gC;split
 ·exact⟨rfl,λh=>by cases h⟩
 ·exact⟨rfl,λ_=>by simp only;omega⟩
theorem sA:∀(f:Nat) (m:List Bs) (k:Nat) (a t:Bs) (d:Er),dU N sg f m k a t=some d->k<=d.bq/\(d.er=0->d.bE.length<=2000)/\(k<=300->d.er=0->d.bq<=300)
 |0,_,_,_,_,_,h=>by cases h
 |f+1,m,k,a,t,d,h=>by
  rw[vU] at h;generalize da a (Mk.bj 36 t)=A at h;generalize Mk.has 36 t=b at h;generalize bQ 36 t=p at h;unfold expB at h;split at h
  ·cases h;obtain⟨y,o⟩:=QD A k;exact⟨by omega,o,λv _=>by omega⟩
  ·cases p with
   |nil=>cases h;exact⟨TD _,λe=>(by cases e),λ_ e=>(by cases e)⟩
   |cons c z=>
    simp only at h;split at h
    ·exact sA f _ _ _ _ _ h
    ·split at h
     ·split at h
      ·cases h;exact⟨TD _,λe=>(by cases e),λ_ e=>(by cases e)⟩
      ·split at h
       ·cases h;exact⟨Ww _,λe=>(by cases e),λ_ e=>(by cases e)⟩
       ·split at h
        ·split at h
         ·cases h;exact⟨Ww _,λe=>(by cases e),λ_ e=>(by cases e)⟩
         ·split at h
          ·cases h
          ·rename_i q r;obtain⟨x,B,u⟩:=sA f _ _ _ _ _ r;split at h
           ·rename_i g;obtain⟨l,j,i⟩:=sA f _ _ _ _ _ h;exact⟨by omega,j,λw e=>i (u (by omega) g) e⟩
           ·rename_i g;cases h;exact⟨by simp only;omega,λe=>absurd e g,λ_ e=>absurd e g⟩
        ·obtain⟨l,j,i⟩:=sA f _ _ _ _ _ h;exact⟨by omega,j,λ_ e=>i (by omega) e⟩
     ·split at h
      ·cases h;exact⟨TD _,λe=>(by cases e),λ_ e=>(by cases e)⟩
      ·exact sA f _ _ _ _ _ h
theorem bM.Tc {m:List Bs}{k:Nat}{a t:Bs}(h:bM N sg m k a t g):k<=g.bq/\(g.er=0->g.bE.length<=2000)/\(k<=300->g.er=0->g.bq<=300):=by obtain⟨f,b⟩:=h;exact sA f _ _ _ _ _ b
theorem bM.step {m:List Bs}{k c :Nat}{a b t u:Bs}(e:bM N sg m k a t g)(h:∀q,bM N sg m c b u q->bM N sg m k a t q):bM N sg m c b u g:=by obtain⟨q,d,-⟩:=zb N sg 301 c (by omega) u.length u ak m b;obtain rfl:=e.kC (h q d);exact d
theorem EM {c:UInt8}{l:Bs}{n:Nat}(h:∀x∈l.take n,x≠c):(n=l.length->Mk.has c l=false)/\(∀h:n<l.length,l[n]=c->Mk.has c l=true/\Mk.bj c l=l.take n/\bQ c l=l.drop (n+1)):=by
 have a:∀x∈l.take n,(!(x==c))=true:=λx f=>by simpa using h x f
 refine⟨λe=> ?_,λd e=> ?_⟩
 ·unfold Mk.has;rw[aa3,VC];intro q;rw[e,Us] at h;exact h c q rfl
 ·have b:l=l.take n++c::l.drop (n+1):=by rw[<-e,List.getElem_cons_drop,VW]
  refine⟨?_,?_,?_⟩
  ·unfold Mk.has;rw[aa3,ZF,<-e];exact TV d
  ·unfold Mk.bj
   conv=>lhs;rw[b]
   rw[WQ a,U9];simp
  ·unfold bQ
   conv=>lhs;rw[b]
   rw[Zg a,Vh];simp
end
end Go.Cp
namespace Go.Mk
open Pl Mk Cp Proofs.Tryz
def rs (a:Bs)(b:Bool):List Bs:=if b then iF a else []
theorem xd (t:Bs):iF t=bj 10 t::rs (bQ 10 t) (has 10 t):=by
 unfold has;induction t with
 |nil=>rfl
 |cons c a g=>
  unfold iF;by_cases h:c=10
  ·subst h;simp[bj,rs,bQ]
  ·have b:(c==10)=false:=by simpa using h
   have f:((10:UInt8)==c)=false:=by simpa using λe=>h e.symm
   rw[b,g,UL,f];simp only[Uj,Vk,XC,List.tail_cons,VV];have i:bj 10 (c::a)=c::bj 10 a:=by unfold bj;rw[U9,b];rfl
   have d:bQ 10 (c::a)=bQ 10 a:=by unfold bQ;rw[Vh,b];rfl
   rw[i,d]
theorem vD (c:UInt8)(t:Bs):(bj c t).length+(bQ c t).length+(if has c t then 1 else 0)=t.length:=by
 unfold has;induction t with
 |nil=>rfl
 |cons x a i=>
  by_cases h:x=c
  ·subst h;simp[bj,bQ]
  ·have b:(x==c)=false:=by simpa using h
   have f:(c==x)=false:=by simpa using λe=>h e.symm
   have g:bj c (x::a)=x::bj c a:=by unfold bj;rw[U9,b];rfl
   have d:bQ c (x::a)=bQ c a:=by unfold bQ;rw[Vh,b];rfl
   rw[g,d,UL,f,VV,TK,TK];omega
theorem PS (t:Bs):iF t≠[]:=by rw[xd];simp
theorem N6 (c:Bs)(d:Nat)(b a:Bs)(h:dR b=true):
 fw c d b (rs a true)=fw (c++b.dropLast++[32]) (d+1) (fE (bj 10 a)) (rs (bQ 10 a) (has 10 a)):=by unfold rs;rw[TP rfl,xd a,fw,h];rfl
theorem Np (c:Bs)(d:Nat)(a b:Bs)(h:dR a=false):fw c d a (rs b true)=(c++a,d,rs b true):=by unfold rs;rw[TP rfl,xd b,fw,h];rfl
theorem Lw (d:Bs)(a:Nat)(b c:Bs):fw d a b (rs c false)=(d++gg b,a,rs c false):=by unfold rs;simp[fw]
def pX (a:List Bs):Nat:=(a.map (λs=>s.length+1)).sum
def lD (a:List (Nat×Bs)):Nat:=(a.map (λx=>x.2.length+1)).sum
theorem se (a:Bs)(b:List Bs):pX (a::b)=a.length+1+pX b:=by simp[pX]
theorem sn (x:Nat×Bs)(a:List (Nat×Bs)):lD (x::a)=x.2.length+1+lD a:=by simp[lD]
theorem BA (t:Bs):pX (iF t)=t.length+1:=by
 induction t with
 |nil=>rfl
 |cons c a d=>
  unfold iF;by_cases h:c=10
  ·subst h;simp only[beq_self_eq_true,Vn,se,d,T1,TK];omega
  ·have e:(c==10)=false:=by simpa using h
   rw[e];simp only[Uj,Vk];have f:=PS a;cases b:iF a with
   |nil=>exact absurd b f
   |cons i g=>rw[b] at d;simp only[se,XC,List.tail_cons,TK] at*;omega
theorem K0 (a:Bs):(gg a).length<=a.length:=zC _ a
theorem Cj:∀(e:List Bs) (c:Bs) (d:Nat) (b:Bs),(fw c d b e).1.length+1+pX (fw c d b e).2.2<=c.length+b.length+1+pX e
 |[],c,d,b=>by have:=K0 b;simp only[fw,TE];omega
 |q::f,c,d,b=>by
  unfold fw;cases h:dR b with
  |true=>
   simp only[Vn];have g:=Cj f (c++b.dropLast++[32]) (d+1) (fE q);have l:=uH q;have i:b.dropLast.length+1=b.length:=by
    cases b with
    |nil=>simp[dR] at h
    |cons a j=>simp
   simp only[TE,TK,T1,se] at*;omega
  |false=>simp only[Uj,Vk,TE,se];omega
theorem B7:∀(f n:Nat) (c:List Bs),lD (kP f n c)<=pX c
 |0,_,_=>by simp[kP,lD]
 |_+1,_,[]=>by simp[kP,lD]
 |f+1,n,b::a=>by have d:=Cj a [] 1 b;have e:=B7 f (n+(fw [] 1 b a).2.1) (fw [] 1 b a).2.2;rw[kP,sn,se];simp only[T1] at*;omega
theorem sf (t:Bs):lD (di t)<=t.length+1:=by rw[<-BA];exact B7 _ _ _
theorem Eb:∀{a:List (Nat×Bs)} {x:Nat×Bs},x∈a->x.2.length+1<=lD a
 |y::a,x,h=>by
  rw[sn];rcases Ue.1 h with rfl|h
  ·omega
  ·have:=Eb h;omega
theorem t_ {t:Bs}{x:Nat×Bs}(h:x∈di t):x.2.length<=t.length:=by have b:=Eb h;have a:=sf t;omega
theorem Ly (c:UInt8)(a:Bs):(bj c a).length<=a.length:=by unfold bj;exact(XH _).length_le
theorem ug (w:Bs):(br w).1.left.length<=w.length/\(br w).1.right.length<=w.length/\(br w).1.cC<=5:=by
 unfold br;split
 ·unfold nk;split
  ·simp[Ln.zero]
  ·have:=uH w;simp only[T1];omega
 ·have g:=q_ (bj 35 w);have e:=Ly 35 w;generalize cut (bj 35 w)=a at*;split
  ·simp[Ln.zero]
  ·split
   ·unfold kF;split
    ·simp[Ln.zero]
    ·have b:=q_ (a.drop 7);simp only[T1,UM] at*;omega
   ·unfold fS;split
    ·simp[Ln.zero]
    ·split
     ·have b:=q_ (a.takeWhile cU);have f:=q_ (gX (a.dropWhile cU)).2;have i:=D8 (a.dropWhile cU);have c:=BD cU a;have h:(a.takeWhile cU).length<=a.length:=(XH _).length_le;have d:(gX (a.dropWhile cU)).1<=5:=by unfold gX;split<;>simp
      simp only;omega
     ·simp[Ln.zero]
def pC (a:List (Ln×Nat)):Nat:=(a.map (λx=>x.1.left.length+x.1.right.length+12)).sum
theorem Mq (x:Ln×Nat)(a:List (Ln×Nat)):pC (x::a)=x.1.left.length+x.1.right.length+12+pC a:=by simp[pC]
theorem DR:∀a:List (Nat×Bs),pC (ed a)<=12*lD a
 |[]=>by simp[ed,pC]
 |(n,w)::b=>by
  have c:=DR b;have h:=ug w;rw[sn];unfold ed;split
  ·omega
  ·rw[Mq];split
   ·simp only;omega
   ·simp only[pC,VL,List.sum_nil];omega
theorem NR (t:Bs):pC (ed (di t))<=12*(t.length+1):=by have a:=DR (di t);have b:=sf t;omega
theorem zm:∀{b:List (Nat×Bs)} {x:Ln×Nat},x∈ed b->∃y∈b,x=({(br y.2).1 with d':=y.1},(br y.2).2)
 |(n,w)::c,x,h=>by
  unfold ed at h;split at h
  ·obtain⟨y,a,e⟩:=zm h;exact⟨y,TX _ a,e⟩
  ·rcases Ue.1 h with rfl|h
   ·exact⟨(n,w),TY ..,rfl⟩
   ·split at h
    ·obtain⟨y,a,e⟩:=zm h;exact⟨y,TX _ a,e⟩
    ·cases h
theorem zR {t:Bs}{x:Ln×Nat}(h:x∈ed (di t)):x.1.left.length<=t.length/\x.1.right.length<=t.length/\x.1.cC<=5:=by obtain⟨y,a,rfl⟩:=zm h;have c:=t_ a;have b:=ug y.2;simp only;omega
def NE (a:Bs):Prop:=∀c,a.getLast?=some c->dF c=false
variable {d l:Bs}
theorem zl (a:UInt8->Bool)(h:∀c,d.getLast?=some c->a c=false):kU a d=d:=by
 rcases WZ d with rfl|⟨r,c,rfl⟩
 ·rfl
 ·rw[aaU] at*;rw[yE,h c (by simp)];rfl
theorem Qt (h:NE d):qA d=d:=zl dF h
theorem DA (a:UInt8->Bool):∀f:Bs,∀c,(kU a f).getLast?=some c->a c=false
 |[],c,h=>by cases h
 |x::e,c,h=>by
  rw[vP] at h;split at h
  ·cases h
  ·rename_i d;cases b:kU a e with
   |nil=>rw[b] at h d;simp at h d;subst h;exact d
   |cons y z=>rw[b,List.getLast?_cons_cons,<-b] at h;exact DA a e c h
theorem P7 (a:Bs):NE (qA a):=DA dF a
theorem RX (a:Bs):NE (cut a):=by rw[<-FT];exact P7 _
theorem vW (x y:Bs)(a:List Bs):[32].intercalate (x::y::a)=x++32::[32].intercalate (y::a):=by simp[List.intercalate,List.intersperse]
theorem ND (x:Bs):[32].intercalate [x]=x:=by simp[List.intercalate,List.intersperse]
def SA (a b :Ln):Prop:=(a.cC=1->dR a.right=false->b.right=a.right)/\(a.cC=2->b.right=sB a.right)/\(a.cC=3\/a.cC=4->b.left=a.left/\b.right=a.right)/\(a.cC=5->b.left=sB a.left/\b.right=sB a.right)
theorem yd (a:UInt8->Bool):∀b:Bs,b.dropWhile a=[]↔∀c∈b,a c=true
 |[]=>by simp
 |x::d=>by
  rw[Vh];cases h:a x with
  |true=>simp[yd a d,h]
  |false=>simp[h]
def rk (a:Ln×Nat):Nat:=if a.2==0 then(if a.1.cC==0 then 0 else if a.1.cC==1 then 99 else if a.1.cC==2 then 105 else if a.1.cC==3 then 102 else if a.1.cC==4 then 108 else 114) else 120
theorem Kb (a:Bs)(k:Nat)(b:k<a.length)(c:(a.take k).all (λx=> !(x==35))=true)(d:a[k]=35):bj 35 a=a.take k:=by
 have h:a=a.take k++35::a.drop (k+1):=by rw[<-d,<-T2 b,VW]
 unfold bj
 conv=>lhs;rw[h]
 rw[WQ (by simpa [List.all_eq_true] using c)];simp
theorem JS (a:Bs)(b:a.all (λx=> !(x==35))=true):bj 35 a=a:=by unfold bj;have h:=WQ (p:=λx:UInt8=> !(x==35)) (l₁:=a) (l₂:=[]) (by simpa [List.all_eq_true] using b);simpa using h
theorem OY (b:Bs)(k:Nat)(e:k<b.length)(f:(b.take k).all cU=true)(d:cU b[k]=false):b.takeWhile cU=b.take k/\b.dropWhile cU=b.drop k:=by
 have h:b=b.take k++b[k]::b.drop (k+1):=by rw[<-T2 e,VW]
 have c :∀a∈b.take k,cU a=true:=by simpa [List.all_eq_true] using f
 constructor
 ·conv=>lhs;rw[h]
  rw[WQ c,U9,d];simp
 ·conv=>lhs;rw[h]
  rw[Zg c,Vh,d];simp
theorem QB (a:Bs)(b:a.all cU=true):rk (fS a)=120:=by
 have:a.dropWhile cU=[]:=by rw[yd];simpa [List.all_eq_true] using b
 unfold fS;rw[this];rfl
theorem R0 (a:Bs)(k:Nat)(b:k<a.length)(f:(a.take k).all cU=true)(e:cU a[k]=false):
 fS a=if fq (gX (a.drop k)).1 (cut (a.take k)) then(⟨0,(gX (a.drop k)).1,cut (a.take k),cut (gX (a.drop k)).2⟩,0) else(Ln.zero,1):=by
 obtain⟨c,g⟩:=OY a k b f e;have d:(a.drop k).isEmpty=false:=by rw[T2 b];rfl
 unfold fS;rw[c,g,d];rfl
theorem MU (a:Bs)(k:Nat)(b:k<a.length)(h:a[k]=61):gX (a.drop k)=(4,a.drop (k+1)):=by rw[T2 b,h];rfl
theorem K9 (a:Bs)(k:Nat)(b:k+1<a.length)(h:a[k]=58)(c:a[k+1]=61):gX (a.drop k)=(3,a.drop (k+2)):=by rw[T2 (by omega),T2 b,h,c];rfl
theorem JK (a:Bs)(k:Nat)(c:k+1=a.length)(h:a[k]=58):gX (a.drop k)=(5,a.drop (k+1)):=by
 have b:a.drop (k+1)=[]:=by rw[V5];omega
 rw[T2 (by omega),h,b];rfl
theorem M2 (a:Bs)(k:Nat)(e:k+1<a.length)(h:a[k]=58)(d:a[k+1]≠61):gX (a.drop k)=(5,a.drop (k+1)):=by
 rw[T2 (by omega),T2 e,h];generalize a[k+1]=c at d;unfold gX;split
 ·rename_i b;simp at b;exact absurd b.1 d
 ·rename_i b;simp at b
 ·rfl
theorem NT (a:Bs)(h:ig.isPrefixOf a=false):iJ a=false:=by unfold iJ;rw[h];rfl
theorem Bq (a:Bs):ig.isPrefixOf a=(a.take 7==ig):=by
 rw[U3,XQ,UR];constructor
 ·intro h;have:=List.prefix_iff_eq_take.1 h;exact this.symm
 ·intro h;rw[<-h];exact List.take_prefix 7 a
theorem Kx (a:Bs)(b:7<a.length):iJ a=((a.take 7==ig)&&dF a[7]):=by unfold iJ;rw[Bq,T2 b]
theorem Kg (a:Bs)(b:a.length<=7)(c:a≠ig):iJ a=false:=by refine NT a ?_;rw[Bq,Uh b];simpa using c
theorem Mu (a:Bs)(e:a≠ig):(∃h:7<a.length,(a.take 7==ig)=true/\dF a[7]=true/\iJ a=true)\/
 (iJ a=false/\(a.length<=7\/∃h:7<a.length,(a.take 7==ig)=false\/((a.take 7==ig)=true/\dF a[7]=false))):=by
 by_cases h:7<a.length
 ·have b:=Kx a h;cases d:(a.take 7==ig) with
  |false=>rw[d] at b;exact .inr ⟨b,.inr ⟨h,.inl rfl⟩⟩
  |true=>
   rw[d] at b;cases c:dF a[7] with
   |false=>rw[c] at b;exact .inr ⟨b,.inr ⟨h,.inr ⟨rfl,c⟩⟩⟩
   |true=>rw[c] at b;exact .inl ⟨h,rfl,c,b⟩
 ·exact .inr ⟨Kg a (by omega) e,.inl (by omega)⟩
theorem KS (X:Bs)(k:Nat)(i:k<(cut X).length):cut ((cut X).drop k)≠[]:=by
 intro h;have a:(cut X).drop k≠[]:=by rw[Ne,V5];omega
 have d:NE ((cut X).drop k):=by intro c e;refine RX X c ?_;rw[List.getLast?_drop,TJ (by omega)] at e;exact e
 generalize (cut X).drop k=D at*;unfold cut fE at h;rw[Qt d] at h;have g:=(yd _ _).1 h;have f:=List.getLast_mem a;have b:=d _ (Xq a);rw[g _ f] at b;cases b
theorem LN (X a:Bs)(b:a=cut X)(h:7<a.length):kF (cut (a.drop 7))=(⟨0,2,[],cut (a.drop 7)⟩,0):=by subst b;have:=KS X 7 h;unfold kF;rw[V9.2 this];rfl
structure sZ (T:Bs)(k kd:Nat)(rest:Bs):Prop where
 pM:fq kd (cut (T.take k))=true->fS T=(⟨0,kd,cut (T.take k),cut rest⟩,0)
 no:fq kd (cut (T.take k))=false->rk (fS T)=120
theorem sZ.of {k c:Nat}(f:k<d.length)(g:(d.take k).all cU=true)(e:cU d[k]=false)(h:gX (d.drop k)=(c,l)):sZ d k c l:=by
 have b:=R0 d k f g e;rw[h] at b;constructor
 ·intro a;rw[b,TP a]
 ·intro a;rw[b,TJ (by rw[a];decide)];rfl
def out (x:Ln×Nat):Bs:=Hp (written x.1)
def Tt (x:Ln×Nat):Prop:=x.1.cC≠0/\∃a,br (out x)=(a,0)/\a.cC=x.1.cC/\Hp (written a)=out x/\10∉out x/\SA x.1 a
theorem Ns (w:Bs):(br w).2<=1:=by
 unfold br
 repeat' split
 all_goals try (simp;done)
 ·unfold kF;split<;>simp
 ·unfold fS
  repeat' split
  all_goals simp
open RowKit
section
variable {P:Program}
theorem J_ {α:Type}{ap:Operand}{ps:Array Tmp}{assign body:Code}{Q:Exit->Act->ax->Prop}{a:Act}{w:ax}{gf:Nat}{lb:Array ay}(hg:a.eval ap= .func (.func gf) #[] lb)(eg:∀args w,(callFunc gf args).run P w= .ok (.enter gf args) w){ab:α->Array ay}{i:Nat->ax->ax->Prop}{L:List α}{w0:ax}(aO:xQ P gf lb ab i L w0)(Z:∀{I:Nat} {A B ao:ax},i I A B->i I B ao->i I A ao)(af:∀(W:ax) (I:Nat) (al o' :Obj),w.heap.size<=I->W.heap[I]?=some al->al.isCells=false->i I W (W.putObj I o'))(ag:Below w0.heap.size w0 w)(aI:∀x,(ab x).size=ps.size)(u:List α->ax->Prop)(Ix:Code->List α->ax->Prop)(hI:OwnFrom w.heap.size u)(ad:∀c,OwnFrom w.heap.size (Ix c))(h0:u [] w)(Ax:α->Act->ax->Prop)(aR:∀x q,OwnFrom w.heap.size (λ(_:Unit) W=>Ax x q W))(aF:∀(b:List α) (x:α) (post:List α) (W:ax) (K:Act->ax->Prop),L=b++x::post->u b W->
  (∀q r,KeepsFrom w.heap.size W r ->i (w.heap.size+1) W r ->u b r ->Ax x q r ->K q r)->
  assign.wpIn (Fence.wide.inRound (w.heap.size+1)) 9 P (Exit.then K (λ_ _ _=>False)) {tmps:=(ps.zip (ab x)).foldl (λt (ac,v)=>t.setIfInBounds ac v) a.tmps,defers:=[]} W)(aA:∀(b:List α) (x:α) (post:List α) (q :Act) (W:ax),L=b++x::post->u b W->Ax x q W->
  body.wpIn (Fence.wide.inRound (w.heap.size+1)) 9 P (Dv w.heap.size (i (w.heap.size+1)) u Ix (b++[x]) W) q W)(aE:∀(D:Nat) (W:ax),w.heap.size<=D->u L W->W.heap[D]?=some (.deferred (some []))->Q .normal {a with defers:={target:= .collected D,args:= #[]}::a.defers} W)(aS:∀(D:Nat) (c:Code) (b post:List α) (W:ax),w.heap.size<=D->L=b++post->Ix c b W->W.heap[D]?=some (.deferred (some []))->
  c.wpIn Fence.wide 9 P Q {a with defers:={target:= .collected D,args:= #[]}::a.defers} W):
 (Code.rangeFunc ap ps assign body).wpIn Fence.wide 9 P Q a w:=by
 refine wpIn_rangeFunc λfn aL=> ?_;obtain⟨j,p⟩:∃j:LoopState->Option Code->Loop,∀s ac,j s ac={state:=s,pending:=ac,fn:=fn,tmps:=a.tmps,params:=ps,assign:=assign,body:=body,defers:=w.heap.size}:=⟨_,λ_ _=>rfl⟩;obtain⟨V,U⟩:∃V,V=(w.alloc (.deferred (some []))).alloc (.loop (j .ready none)):=⟨_,rfl⟩;have aV:V.heap.size=w.heap.size+2:=by rw[U];simp
 have aT:V.heap[w.heap.size+1]?=some (.loop (j .ready none)):=by have:=WK (w.alloc (.deferred (some []))) (.loop (j .ready none));rw[TM] at this;rw[U];exact this
 have aQ:V.heap[w.heap.size]?=some (.deferred (some [])):=by rw[U];exact(VU _ _ _ (by simp)).trans (WK w _)
 obtain⟨G,hJ⟩:∃G:List α->ax->Prop,G=λb W=>u b W/\W.heap[w.heap.size+1]?=some (.loop (j .ready none))/\W.heap[w.heap.size]?=some (.deferred (some [])):=⟨_,rfl⟩;obtain⟨R,ai⟩:∃R:List α->ax->Prop,R=λb W=>∃c,Ix c b W/\W.heap[w.heap.size+1]?=some (.loop (j .done (some c)))/\W.heap[w.heap.size]?=some (.deferred (some [])):=⟨_,rfl⟩;have aN:OwnFrom V.heap.size G:=by
  rw[hJ];rintro s X Y row ⟨z,l,C⟩ O E;have M :∀f,row=some f->w.heap.size+2<=f:=λf e=>by have:=(E f e).1;omega
  exact⟨hI s X Y row z O (λf e=>⟨by have:=M f e;omega,(E f e).2⟩),same_below O M (by omega) l,same_below O M (by omega) C⟩
 have aG:OwnFrom V.heap.size R:=by
  rw[ai];rintro s X Y row ⟨c,z,l,C⟩ O E;have M :∀f,row=some f->w.heap.size+2<=f:=λf e=>by have:=(E f e).1;omega
  exact⟨c,ad c s X Y row z O (λf e=>⟨by have:=M f e;omega,(E f e).2⟩),same_below O M (by omega) l,same_below O M (by omega) C⟩
 have az:Below w0.heap.size w0 V:=by rw[U];exact(ag.alloc ag.size _).alloc (by have:=ag.size;simp;omega) _
 have aw:G [] V:=by rw[hJ];exact⟨by rw[U];exact hI.alloc _ (hI.alloc _ h0),aT,aQ⟩
 have aB:∀b x post J,L=b++x::post->G b J->YieldAt Fence.wide 9 P (w.heap.size+1) (ab x) J λe r=>
  (e= .returned (.bool true)/\G (b++[x]) r /\i (w.heap.size+1) J r)\/(e= .returned (.bool false)/\R (b++[x]) r /\i (w.heap.size+1) J r):=by
  intro b x post J hL hj;rw[hJ] at hj;obtain⟨z,l,C⟩:=hj;have hy:=run_yield (P:=P) (args:=ab x) l (by rw[p];exact aI x);simp only[p] at hy;refine⟨fn,_,assign,body,hy,roundIn_of_wpIn aL (aF b x post J _ hL z ?_)⟩;intro q W2 ar am av aJ;have aa:=ar.same _ _ (by omega) l rfl;have aK:=ar.same _ _ ak C rfl;refine⟨_,run_beginRound aa (by rw[p]),?_⟩;obtain⟨o,T⟩:∃o,o=W2.putObj (w.heap.size+1) (.loop {j .ready none with state:= .busy}):=⟨_,rfl⟩;rw[<-T];have aC:=(TN.1 aa).1;have aH:o.heap[w.heap.size+1]?=some (.loop {j .ready none with state:= .busy}):=by rw[T];exact Xs aC
  have au:o.heap[w.heap.size]?=some (.deferred (some [])):=by rw[T];exact(Vb (by omega)).trans aK
  have aq:i (w.heap.size+1) W2 o:=by rw[T];exact af _ _ _ _ (by omega) aa rfl
  have aU:u b o:=by rw[T];exact hI.putObj _ av (by omega) aa rfl
  have aP:Ax x q o:=by rw[T];exact(aR x q).putObj (s:=()) _ aJ (by omega) aa rfl
  refine wpIn_mono (aA b x post q o hL aU aP) ?_;have an:∀(F:Option Code) (d:ax),KeepsFrom w.heap.size o d->∃g,(Instr.endRound (w.heap.size+1) F).run P d= .ok (.bool F.isNone) g/\
   g=d.putObj (w.heap.size+1) (.loop (j (if F.isNone then .ready else .done) F))/\d.heap[w.heap.size+1]?=some (.loop {j .ready none with state:= .busy})/\
   g.heap[w.heap.size+1]?=some (.loop (j (if F.isNone then .ready else .done) F))/\g.heap[w.heap.size]?=some (.deferred (some [])):=by
   intro F d S;have y:=S.same _ _ (by omega) aH rfl;have aM:=S.same _ _ ak au rfl;have H:=run_endRound (P:=P) F y;simp only[p] at H;refine⟨_,H,by simp only[p],y,?_,?_⟩
   ·simp only[p];exact Xs (TN.1 y).1
   ·exact(Vb (by omega)).trans aM
  have stop:∀(c:Code) (d:ax),KeepsFrom w.heap.size o d->i (w.heap.size+1) o d->Ix c (b++[x]) d->∃v g,(Instr.endRound (w.heap.size+1) (some c)).run P d= .ok v g/\
   ((Ending.returned v= .returned (.bool true)/\G (b++[x]) g/\i (w.heap.size+1) J g)\/(Ending.returned v= .returned (.bool false)/\R (b++[x]) g/\i (w.heap.size+1) J g)):=by
   intro c d S aj hx;obtain⟨g,E,e5,y,ah,ae⟩:=an (some c) d S;exact⟨_,g,E,.inr ⟨rfl,by rw[ai];exact⟨c,by rw[e5];exact(ad c).putObj _ hx (by omega) y rfl,ah,ae⟩,Z am (Z aq (Z aj (by rw[e5];exact af _ _ _ _ (by omega) y rfl)))⟩⟩
  rintro e a4 d m;cases e with
  |normal=>obtain⟨S,aj,aD⟩:=m;obtain⟨g,E,e5,y,ah,ae⟩:=an none d S;refine⟨_,g,E,.inl ⟨rfl,by rw[hJ];exact⟨by rw[e5];exact hI.putObj _ aD (by omega) y rfl,ah,ae⟩,?_⟩⟩;exact Z am (Z aq (Z aj (by rw[e5];exact af _ _ _ _ (by omega) y rfl)))|ret=>exact stop _ d m.1 m.2.1 m.2.2
  |exit id=>exact stop _ d m.1 m.2.1 m.2.2
  |goto t=>exact stop _ d m.1 m.2.1 m.2.2
  |panic ch=>exact m.elim
  |outgrown=>exact m.elim
 refine⟨w.heap.size+1,[{target:= .collected w.heap.size,args:= #[]}],V,{target:= .fn (.func gf) lb,args:= #[.func (.yield (w.heap.size+1)) #[] #[]]},V,gf,
  #[.func (.yield (w.heap.size+1)) #[] #[]]++lb,V,?_,?_,λ_ _=>trivial,?_,λh=>by simp[Fence.wide] at h,?_⟩
 ·rw[U,p];exact run_enterLoop_outer _ _ _ _ _
 ·simp only[resolve,hg];simp[go_sem]
 ·simp[invoke,go_sem,eg]
 ·refine(B_ (aO (w.heap.size+1) G R V (by omega) az aN aG aB aw)).mono ?_;rintro e W2 ⟨⟨v,rfl⟩,h|⟨b,post,hL,h⟩⟩
  ·rw[hJ] at h;obtain⟨z,l,C⟩:=h;have H:=aaW (P:=P) l (by rw[p];simp);simp only[p] at H;exact⟨none,_,H,aE _ _ ak (hI.putObj _ z (by omega) l rfl) ((Vb (by omega)).trans C)⟩
  ·rw[ai] at h;obtain⟨c,z,l,C⟩:=h;have H:=aaW (P:=P) l (by rw[p];simp);simp only[p] at H;exact⟨some c,_,H,aS _ c b post _ ak hL ((ad c).putObj _ z (by omega) l rfl) ((Vb (by omega)).trans C)⟩
end
theorem NU (s:Bs)(f k:Nat)(c:f<=k)(a:k<s.length)(b:dF s[k]=false):
 eB ((s.take k).drop f) (s.drop k)=eB ((s.take (k+1)).drop f) (s.drop (k+1)):=by rw[T2 a,eB,b,TW a,Y' (by simp;omega)];rfl
theorem tV (s:Bs)(k:Nat):(s.take k).drop k=[]:=by rw[V5];simp;omega
theorem Hu (s:Bs)(f k:Nat)(a:f<k)(b:k<=s.length):((s.take k).drop f).isEmpty=false:=by rw[V9,<-Uy];simp;omega
theorem Oq (s:Bs)(f k:Nat)(a:f<k)(b:k<s.length)(c:dF s[k]=true):
 eB ((s.take k).drop f) (s.drop k)=[(s.take k).drop f]++eB ((s.take (k+1)).drop (k+1)) (s.drop (k+1)):=by rw[T2 b,eB,c,TP rfl,Hu s f k a (by omega),tV];rfl
theorem MN (s:Bs)(k:Nat)(a:k<s.length)(b:dF s[k]=true):
 eB ((s.take k).drop k) (s.drop k)=eB ((s.take (k+1)).drop (k+1)) (s.drop (k+1)):=by rw[T2 a,eB,b,TP rfl,tV,tV];rfl
theorem Pz (s:Bs)(f k:Nat)(b:f<k)(d:k=s.length):
 eB ((s.take k).drop f) (s.drop k)=[(s.take k).drop f]++eB ((s.take (k+1)).drop (k+1)) (s.drop (k+1)):=by
 have a:s.drop k=[]:=by rw[V5];omega
 have c:s.drop (k+1)=[]:=by rw[V5];omega
 rw[a,c,eB,Hu s f k b (by omega),tV];rfl
theorem zZ (s:Bs)(k:Nat)(b:s.length<=k):eB ((s.take k).drop k) (s.drop k)=[]:=by
 have a:s.drop k=[]:=by rw[V5];omega
 rw[a,tV];rfl
def gy (s:Bs)(f k:Nat)(a:List Bs):Prop:=bH s=a++eB ((s.take k).drop f) (s.drop k)
theorem gy.start (s:Bs):gy s 0 0 []:=by simp[gy,bH]
variable {c:List Bs}
theorem gy.u4 {s:Bs}{f k:Nat}(h:gy s f k c)(a:f<=k)(b:k<s.length)(d:dF s[k]=false):gy s f (k+1) c:=by rw[gy,h,NU s f k a b d]
theorem gy.SR {s:Bs}{f k:Nat}(h:gy s f k c)(a:f<k)(b:k<s.length)(d:dF s[k]=true):gy s (k+1) (k+1) (c++[(s.take k).drop f]):=by rw[gy,h,Oq s f k a b d,Ub]
theorem gy.blank {s:Bs}{k:Nat}(h:gy s k k c)(a:k<s.length)(b:dF s[k]=true):gy s (k+1) (k+1) c:=by rw[gy,h,MN s k a b]
theorem gy.du {s:Bs}{f k:Nat}(h:gy s f k c)(a:f<k)(b:k=s.length):gy s (k+1) (k+1) (c++[(s.take k).drop f]):=by rw[gy,h,Pz s f k a b,Ub]
theorem gy.none {s:Bs}{k:Nat}(h:gy s k k c)(a:k=s.length):gy s (k+1) (k+1) c:=by rw[gy,h,zZ s k (by omega),zZ s (k+1) (by omega)]
theorem gy.done {s:Bs}{k:Nat}(h:gy s k k c)(a:s.length<=k):bH s=c:=by rw[h,zZ s k a,Vs]
end Go.Mk
namespace Go.Proofs.YtjelacjggijmfaaGreatDoor
open Pl Mk Cp Proofs.Tryz
open RowKit
theorem sm (s:az)(f k:Nat):s.extract f k=⟨((s.data.toList.take k).drop f).toArray⟩:=by refine ie ?_;rw[Wj,YL]
def ep (w:ax)(B:Nat)(v:ay)(a:List ag):Prop:=w.ownsRow B 9 1 v a.length (a.map aK)
theorem ep.fO {d w a :ax}{B:Nat}{v e :ay}{c:List ag}{b:ag}(f:Obj)(m:d.heap.size=B)(j:ep w B v c)(g:Below B d w)(h:a.ownsRow B 9 1 e (c.length+1) (c.map aK++[aK b]))(l:(w.alloc f).grownBy a v.ownBlock):ep a B e (c++[b])/\Below B d a :=by refine⟨by simpa [ep] using h,?_⟩;have o:=g.size;refine(g.alloc (by omega) f).grown l (by rw[TM];omega) ?_;intro k i;have:=(j.lt k i).1;omega
theorem pc (w:ax)(x:ay)(t:TypeId):∀(a:Nat) (u:ay),[x][a]?=some u->(w.alloc (.cells #[x] t)).cell? ((⟨w.heap.size,0,none⟩:Addr).add a)=some u:=by
 intro a u b
 match a,b with
 |0,b=>simp at b;subst b;simp[Addr.add]
theorem sL (b:az):∀u∈[Value.string b],u.oneCell' =true:=by intro u a;simp at a;subst a;rfl
theorem J2 (s:az)(w:ax)(S:s.size<=4294967296):
 Calls prog 151 #[.string s] w λe z=>∃v,e= .returned v/\ep z w.heap.size v (bH s.data.toList)/\Below w.heap.size w z :=by
 obtain⟨E,G,A,D,F⟩:=UF Tryz.kJ;have p:=aB (Uf s);go_enter func151,ntmps151;go_wp2
 go_loopw [3,4,5] (λv K y wr=>∃(k f:Nat) (c:List ag),k<=s.size+1/\f<=k/\(k=s.size+1->f=k)/\y= .int .i64 k/\K= .int .i64 f/\c.length<=k/\ep wr w.heap.size v c/\Below w.heap.size w wr/\gy s.data.toList f k c)
  (λ_ _ y _=>s.size+1-(intOf y).toNat)
 case atStart=>exact⟨0,0,[],TS _,TD _,λ_=>rfl,rfl,rfl,TD _,Uk _ _ _ _,TF _ _,gy.start _⟩
 case round=>
  obtain⟨k,f,c,R,L,m,rfl,rfl,Q,d,g,B⟩:=hrel;have O:=g.size;have i:=aB B;clear B;have H:=aB (sm s f k);by_cases I:k<s.size
  ·clear m;have o:=aB (show k<s.data.toList.length by have:=p.u;omega);have C:s.data.toList[k]' o.u=s[k]:=rfl;have q:=aB C;clear C;cases r:Mk.dF (s[k]'I) with
   |false=>
    have a:=i.u.u4 L o.u (by rw[q.u];exact r);have b:=aB a;clear a;go_wp2_with (go_at_call 118;refine(lT _ _).mono ?_;rintro e l ⟨rfl,rfl⟩)
    go_roundw
    case rel=>exact⟨k+1,f,c,by omega,by omega,by omega,by simp,rfl,by omega,d,g,b.u⟩
    case measure=>simp[intOf];omega
   |true=>
    by_cases x:f<k
    ·have a:=i.u.SR x o.u (by rw[q.u];exact r);have b:=aB a;clear a;go_wp2_with (first|(go_at_call 118;refine(lT _ _).mono ?_;rintro e l ⟨rfl,rfl⟩)|(at_builtin;refine Uo _ rfl (.tmp 26) (.tmp 31) 30 rfl w.heap.size 9 E (.string ⟨#[]⟩) 1 16 UC G A D F rfl (by decide) _ _ _ rfl (T_ d _) ⟨wr.heap.size,0,none⟩ 1 1 [.string (s.extract f k)] rfl rfl (pc wr _ _) (sL _) (by unfold maxLen;omega) (by omega) (by rw[TM];omega) ?_))
     intro J l h j _;rw[H.u] at h;have a:=ep.fO _ rfl d g h j;clear h j;go_wp2
     go_roundw
     case rel=>exact⟨k+1,k+1,c++[(s.data.toList.take k).drop f],by omega,by omega,by omega,by go_num,by go_num,by simp;omega,a.1,a.2,b.u⟩
     case measure=>simp[intOf];omega
    ·obtain rfl:f=k:=by omega
     have a:=i.u.blank o.u (by rw[q.u];exact r);have b:=aB a;clear a;go_wp2_with (go_at_call 118;refine(lT _ _).mono ?_;rintro e l ⟨rfl,rfl⟩)
     go_roundw
     case rel=>exact⟨f+1,f+1,c,by omega,by omega,by omega,by go_num,by go_num,by omega,d,g,b.u⟩
     case measure=>simp[intOf];omega
  ·by_cases M:k=s.size
   ·subst M;by_cases x:f<s.size
    ·clear m;have a:=i.u.du x (by have:=p.u;omega);have b:=aB a;clear a;go_wp2_with (at_builtin;refine Uo _ rfl (.tmp 26) (.tmp 31) 30 rfl w.heap.size 9 E (.string ⟨#[]⟩) 1 16 UC G A D F rfl (by decide) _ _ _ rfl (T_ d _) ⟨wr.heap.size,0,none⟩ 1 1 [.string (s.extract f s.size)] rfl rfl (pc wr _ _) (sL _) (by unfold maxLen;omega) (by omega) (by rw[TM];omega) ?_)
     intro J l h j _;rw[H.u] at h;have a:=ep.fO _ rfl d g h j;clear h j;go_wp2
     go_roundw
     case rel=>exact⟨s.size+1,s.size+1,c++[(s.data.toList.take s.size).drop f],by omega,by omega,by omega,by go_num,by go_num,by simp;omega,a.1,a.2,b.u⟩
     case measure=>simp[intOf]
    ·clear m;obtain rfl:f=s.size:=by omega
     have a:=i.u.none (by have:=p.u;omega);have b:=aB a;clear a;go_wp2
     go_roundw
     case rel=>exact⟨s.size+1,s.size+1,c,by omega,by omega,by omega,by go_num,by go_num,by omega,d,g,b.u⟩
     case measure=>simp[intOf]
   ·obtain rfl:=m (by omega);have a:=i.u.done (by have:=p.u;omega);have b:=aB a;clear a;go_wp2
    go_ret;exact⟨_,rfl,by rw[b.u];exact d,g⟩
theorem Dz (c:UInt8):(jZ c=true)↔((97:Int)<=(c.toNat:Int)/\(c.toNat:Int)<=122)\/((65:Int)<=(c.toNat:Int)/\(c.toNat:Int)<=90)\/((48:Int)<=(c.toNat:Int)/\(c.toNat:Int)<=57)\/(c.toNat:Int)=95:=by rw[<-vF];simp[o_];omega
theorem KX (c:UInt8)(h:¬(((97:Int)<=(c.toNat:Int)/\(c.toNat:Int)<=122)\/((65:Int)<=(c.toNat:Int)/\(c.toNat:Int)<=90)\/((48:Int)<=(c.toNat:Int)/\(c.toNat:Int)<=57)\/(c.toNat:Int)=95)):jZ c=false:=by
 cases a:jZ c with
 |false=>rfl|true=>exact absurd ((Dz c).1 a) h
theorem Lo (a:List UInt8)(h:a.all jZ=false):eo a=false:=by simp[eo,h]
theorem Nu (s:az)(k:Nat)(a:¬k<s.size)(h:(s.data.toList.take k).all jZ=true):eo s.data.toList=(decide ((1:Int)<=(s.size:Int))&&decide ((s.size:Int)<=16)):=by rw[Uh (by rw[<-Uf];omega)] at h;have b:=Uf s;simp only[eo,h,X0];rw[U3];simp only[U0,Xc,V9,U6];rw[<-Uy];omega
theorem qN (s:az)(w:ax)(z:s.size<=4294967296):
 Calls prog 154 #[.string s] w λe m=>e= .returned (.bool (eo s.data.toList))/\w=m :=by
 go_enter func154,ntmps154;go_wp2
 go_loop [3] (λh=>∃k:Nat,k<=s.size/\h= .int .i64 k/\(s.data.toList.take k).all jZ=true) (λh=>s.size-(intOf h).toNat)
 case atStart=>exact⟨0,TS _,rfl,by simp⟩
 case round=>
  obtain⟨k,x,rfl,l⟩:=hrel;have i:=aB l;clear l;by_cases a:k<s.size
  ·have q:=aB (Dz (s[k]'a));have p:=aB (KX (s[k]'a));have v:=aB (qS s k a);by_cases f:((97:Int)<=((s[k]'a).toNat:Int)/\((s[k]'a).toNat:Int)<=122)\/((65:Int)<=((s[k]'a).toNat:Int)/\((s[k]'a).toNat:Int)<=90)\/((48:Int)<=((s[k]'a).toNat:Int)/\((s[k]'a).toNat:Int)<=57)\/((s[k]'a).toNat:Int)=95
   ·have c:=aB (q.u.2 f);have j:∃g:Nat,g<=s.size/\Value.int .i64 ((k:Int)+1)= .int .i64 g/\(s.data.toList.take g).all jZ=true:=by refine⟨k+1,by omega,by simp,?_⟩;rw[v.u,Zf,i.u];simp[c.u]
    have o:=aB j;clear j;rcases f with⟨b,d⟩|⟨b,d⟩|⟨b,d⟩|b;all_goals go_wp2
    all_goals exact⟨o.u,by simp[intOf];omega⟩
   ·have c:=aB (Lo _ (Bj _ k (by rw[<-Uf];exact a) (p.u f)));rcases(show ((s[k]'a).toNat:Int)<48\/((57:Int)<((s[k]'a).toNat:Int)/\((s[k]'a).toNat:Int)<65)\/((90:Int)<((s[k]'a).toNat:Int)/\((s[k]'a).toNat:Int)<97/\¬((s[k]'a).toNat:Int)=95)\/(122:Int)<((s[k]'a).toNat:Int) from by omega) with b|⟨b,d⟩|⟨b,d,h3⟩|b;all_goals have y:¬((s[k]'a).toNat:Int)=95:=by omega
    all_goals clear f
    all_goals go_wp2
    all_goals first|(go_ret;exact⟨ko c.u.symm,rfl⟩)|(exfalso;rename_i r;simp only[Bool.not_eq_false',U6,Uv] at r;omega)
  ·have c:=aB (Nu s k a i.u);go_wp2
   all_goals go_ret
   all_goals(refine ⟨ko ?_,rfl⟩;rw[c.u];simp;try omega)
def gH (n:Nat)(a:Ln×Nat)(v:ay):Prop:=∃L b:az,v= .agg #[.int .i64 n,.int .u8 (rk a),.string L,.string b]/\(rk a≠120->L=⟨a.1.left.toArray⟩/\b=⟨a.1.right.toArray⟩)
theorem gH.of {n:Nat}{a:Ln×Nat}{b:Int}{L c:az}(e:(rk a:Int)=b)(d:b≠120->L=⟨a.1.left.toArray⟩/\c=⟨a.1.right.toArray⟩):
 gH n a (.agg #[.int .i64 n,.int .u8 b,.string L,.string c]):=⟨L,c,by rw[e],λh=>d (by omega)⟩
theorem IB (s:az)(a:0<s.size):List.isPrefixOf [9] s.data.toList=(s[0]==9):=by rw[vV s a];simp[List.isPrefixOf,BEq.comm]
theorem MP (a:ag)(h:List.isPrefixOf [9] a=true):br a=(nk a,0):=by unfold br;rw[h];rfl
theorem qX (a:ag):∃t:az,t=⟨a.toArray⟩/\t.data.toList=a/\t.size=a.length:=⟨_,rfl,by simp,eh a⟩
theorem si (t:az):t.toList.isEmpty=t.data.toList.isEmpty:=by rw[UQ]
theorem Kv (n:Nat)(s:az)(w:ax)(l:0<s.size)(m:s[0]=9):
 Calls prog 150 #[.int .i64 n,.string s] w λe j=>∃v,e= .returned v/\gH n (br s.data.toList) v/\Below w.heap.size w j :=by
 have i:=aB (MP s.data.toList (by rw[IB s l,m];rfl));obtain⟨b,d,f,-⟩:=qX (fE s.data.toList);have g:=aB d;have h:=aB f;clear d f;go_enter func150,ntmps150;go_wp2_with fail
 refine(Bo _ _).mono ?_;rintro e o ⟨rfl,rfl⟩;rw[<-g.u];cases c:b.toList.isEmpty with
 |true=>
  go_wp2_with fail
  have a:br s.data.toList=(Ln.zero,0):=by rw[i.u];unfold nk;rw[<-h.u,<-si,c];rfl
  refine Ua (v:= .agg #[.int .i64 n,.int .u8 0,.string ⟨#[]⟩,.string b]) (by simp[results,results150,go_sem]) rfl ⟨_,rfl,gH.of ?_ ?_,(aj w _).alloc (by simp) _⟩
  ·rw[a];rfl
  ·intro _;rw[a];exact⟨rfl,ie (wO c)⟩
 |false=>
  go_wp2_with fail
  have a:br s.data.toList=(⟨0,1,[],fE s.data.toList⟩,0):=by rw[i.u];unfold nk;rw[<-h.u,<-si,c];rfl
  refine Ua (v:= .agg #[.int .i64 n,.int .u8 99,.string ⟨#[]⟩,.string b]) (by simp[results,results150,go_sem]) rfl ⟨_,rfl,gH.of ?_ ?_,(aj w _).alloc (by simp) _⟩
  ·rw[a];rfl
  ·intro _;rw[a];exact⟨rfl,g.u⟩
theorem Lu (b a:ag)(h:List.isPrefixOf [9] b=false)(c:a=Mk.cut (Mk.bj 35 b)):
 br b=if a.isEmpty then(Ln.zero,0) else if iJ a then kF (Mk.cut (a.drop 7)) else fS a:=by unfold br;rw[h,c];rfl
def nr (s t:az)(k:Nat):Prop:=(t=s/\k<=s.size/\(s.data.toList.take k).all (λx=> !(x==35))=true)\/(k=t.size+1/\t.size<s.size/\t.data.toList=Mk.bj 35 s.data.toList)
theorem nr.done {s t:az}{k:Nat}(h:nr s t k)(e:¬k<t.size):t=⟨(Mk.bj 35 s.data.toList).toArray⟩:=by
 have d:=Uf s;rcases h with⟨rfl,c,a⟩|⟨c,a,b⟩
 ·refine ie ?_;rw[Uh (by omega)] at a;exact(JS _ a).symm
 ·exact ie b
theorem nr.go {s t:az}{k:Nat}(h:nr s t k)(b:k<t.size)(d:¬t[k]=35):nr s t (k+1):=by
 have e:=Uf s;rcases h with⟨rfl,c,a⟩|⟨c,a,f⟩
 ·refine .inl ⟨rfl,by omega,?_⟩;rw[qS t k b,Zf,a];simpa using d
 ·omega
theorem nr.cut {s t:az}{k:Nat}(h:nr s t k)(f:k<t.size)(c:t[k]=35):nr s (t.extract 0 k) (k+1):=by
 have d:=Uf s;rcases h with⟨rfl,b,a⟩|⟨b,a,e⟩
 ·refine .inr ⟨by simp;omega,by simp;omega,?_⟩;rw[Wj,V4,Zo];exact(Kb _ k (by omega) a c).symm
 ·omega
theorem nr.le {s t:az}{k:Nat}(h:nr s t k):t.size<=s.size/\k<=t.size+1:=by
 rcases h with⟨rfl,b,a⟩|⟨b,a,c⟩
 ·omega
 ·omega
theorem KO (n:Nat)(w:ax):
 Calls prog 150 #[.int .i64 n,.string ⟨#[]⟩] w λe a=>∃v,e= .returned v/\gH n (Ln.zero,0) v/\Below w.heap.size w a :=by
 go_enter func150,ntmps150;go_wp2_with fail
 go_loop [1,6] (λv b=>v= .string ⟨#[]⟩/\b= .int .i64 0) (λ_ _=>0)
 case atStart=>exact⟨rfl,rfl⟩
 case round=>
  obtain⟨rfl,rfl⟩:=hrel;go_wp2_with fail
  refine(lr ⟨#[]⟩ _ (by decide)).mono ?_;rintro e c ⟨rfl,rfl⟩;rw[show (⟨(Mk.cut (⟨#[]⟩:az).data.toList).toArray⟩:az)=⟨#[]⟩ from rfl];go_wp2_with fail
  refine Ua (v:= .agg #[.int .i64 n,.int .u8 0,.string ⟨#[]⟩,.string ⟨#[]⟩]) (by simp[results,results150,go_sem]) rfl ⟨_,rfl,gH.of ?_ ?_,(aj w _).alloc (by simp) _⟩
  ·rfl
  ·exact λ_=>⟨rfl,rfl⟩
end Go.Proofs.YtjelacjggijmfaaGreatDoor
namespace Go.Mk
open Pl Mk Cp Proofs.Tryz
def rl:Nat->Nat->Bs->Bool->Bool->Bs->List (Nat×Bs)
 |first,_,s,start,on,[]=>[(first,if dR s&& !(on&&start) then gg s.dropLast else s)]
 |first,n,s,start,on,c::a=>
  if c==10 then
   (if dR s&& !(on&&start) then rl first (n+1) (s.dropLast++[32]) true true a else(first,s)::rl (n+1) (n+1) [] true false a)
  else if on&&start&&dF c then rl first n s start on a
  else rl first n (s++[c]) false on a
theorem JW (a c:Bs)(h:c≠[]):dR (a++c)=dR c:=by
 unfold dR;rw[XR];cases b:c.getLast? with
 |none=>exact absurd (W7.1 b) h
 |some x=>rfl
theorem K5 (a c:Bs)(h:dR a=false):gg (a++c)=a++gg c:=by
 unfold gg;rw[Zi,aaR];split
 ·rename_i f;have i:c.reverse.dropWhile (·==92)=[]:=by simpa using f
  rw[i];cases b:a.reverse with
  |nil=>simp at b;simp[b]
  |cons x e=>
   have d:a=e.reverse++[x]:=by have:=TU List.reverse b;simpa using this
   have g:(x==92)=false:=by rw[d] at h;unfold dR at h;simpa using h
   rw[Vh,g];simp[d]
 ·simp
theorem yo (c:Bs)(h:dR c=true):gg c.dropLast=gg c:=by
 unfold dR at h;have a:c.getLast?=some 92:=by simpa using h
 obtain⟨d,rfl⟩:∃d,c=d++[92]:=by
  have b:c≠[]:=by intro e;rw[e] at a;simp at a
  refine⟨c.dropLast,?_⟩;have:=Wg b;rw[Xq b] at a;rw[UX a] at this;exact this.symm
 simp[gg]
theorem Ei (c:Bs)(h:dR c=false):gg c=c:=zl _ (λx a=>by unfold dR at h;rw[a] at h;simpa using h)
structure zL (aC cur s:Bs)(start on:Bool):Prop where
 cd:s=aC++cur
 lZ:start=true->cur=[]
 gh:start=false->cur≠[]
 SD:on=false->aC=[]
 blank:dR aC=false
theorem zL.IE {b a s:Bs}{start on:Bool}(h:zL b a s start on):(dR s&& !(on&&start))=dR a:=by
 rw[h.cd];cases start with
 |true=>rw[h.lZ rfl,Vs];rw[h.blank];rfl
 |false=>rw[JW _ _ (h.gh rfl)];simp
theorem Jv (a:Bs):dR (a++[32])=false:=by simp[dR]
theorem G8 (a:Bs):iF (10::a)=[]::iF a:=rfl
theorem CD (c:UInt8)(b q:Bs)(a:List Bs)(d:(c==10)=false)(h:iF b=q::a):iF (c::b)=(c::q)::a:=by simp[iF,d,h]
theorem zd:∀a:Bs,∃q b,iF a=q::b
 |[]=>⟨_,_,rfl⟩
 |c::a=>by
  obtain⟨q,b,h⟩:=zd a;cases d:c==10 with
  |true=>
   have:c=10:=by simpa using d
   subst this;exact⟨_,_,G8 a⟩
  |false=>exact⟨_,_,CD c a q b d h⟩
theorem sS:∀(i:Bs) (first n:Nat) (g a s:Bs) (start on:Bool) (q:Bs) (j:List Bs) (l f:Nat),iF i=q::j->zL g a s start on->n+1=first+l->j.length<=f->
 rl first n s start on i=(first,(fw g l (if on&&start then fE q else a++q) j).1)::kP f (first+(fw g l (if on&&start then fE q else a++q) j).2.1) (fw g l (if on&&start then fE q else a++q) j).2.2
 |[],first,n,g,a,s,start,on,q,j,l,f,r,b,w,v=>by
  obtain⟨rfl,rfl⟩:[]=q/\[]=j:=by simpa [iF] using r
  have A:(if on&&start then fE [] else a++[])=a:=by
   cases start with
   |true=>rw[b.lZ rfl];cases on<;>rfl
   |false=>simp
  rw[A,rl,b.IE,fw];have D:∀f n,kP f n []=[]:=by intro f n;cases f<;>rfl
  rw[D];cases d:dR a with
  |true=>
   have z:a≠[]:=by intro x;rw[x] at d;cases d
   rw[TP rfl,b.cd,YY z,K5 _ _ b.blank,yo _ d]
  |false=>rw[TJ (by decide),b.cd];have:gg a=a:=zl _ (λc u=>by unfold dR at d;rw[u] at d;simpa using d);rw[this]
 |c::i,first,n,g,a,s,start,on,q,j,l,f,r,b,w,v=>by
  obtain⟨o,m,p⟩:=zd i;cases u:c==10 with
  |true=>
   obtain rfl:c=10:=by simpa using u
   rw[G8,p] at r;obtain⟨rfl,rfl⟩:[]=q/\o ::m =j:=by simpa using r
   have A:(if on&&start then fE [] else a++[])=a:=by
    cases start with
    |true=>rw[b.lZ rfl];cases on<;>rfl
    |false=>simp
   rw[A,rl,TP u,b.IE,fw];simp only[TK] at v;cases d:dR a with
   |true=>
    have z:a≠[]:=by intro x;rw[x] at d;cases d
    rw[TP rfl,TP rfl,b.cd,YY z];have e:=sS i first (n+1) (g++a.dropLast++[32]) [] (g++a.dropLast++[32]) true true o m (l+1) f p
     ⟨(by simp),λ_=>rfl,(λh=>by cases h),(λh=>by cases h),Jv _⟩ (by omega) (by omega)
    rw[e];rfl
   |false=>rw[TJ (by decide),TJ (by decide),b.cd];obtain⟨y,rfl⟩:∃y,f=y +1:=⟨f-1,by omega⟩;have e:=sS i (n+1) (n+1) [] [] [] true false o m 1 y p ⟨rfl,λ_=>rfl,(λh=>by cases h),λ_=>rfl,rfl⟩ (by omega) (by omega);rw[e];simp only[kP,We,UI];rw[w];rfl
  |false=>
   rw[CD c i o m u p] at r;obtain⟨rfl,rfl⟩:c::o =q/\m =j:=by simpa using r
   rw[rl,u];simp only[Uj,Vk];cases B:on&&start with
   |true=>
    obtain⟨rfl,rfl⟩:on=true/\start=true:=by simpa using B
    have C:=b.lZ rfl;subst C;cases d:dF c with
    |true=>have e:=sS i first n g [] s true true o m l f p b w v;simp only[Bool.and_self,Vn,qR,d] at e⊢;exact e
    |false=>have e:=sS i first n g [c] (s++[c]) false true o m l f p ⟨(by rw[b.cd];simp),(λh=>by cases h),(λ_=>by simp),(λh=>by cases h),b.blank⟩ w v;simp only[ZG,Vn,qR,d] at e⊢;exact e
   |false=>have e:=sS i first n g (a++[c]) (s++[c]) false on o m l f p ⟨(by rw[b.cd];simp),(λh=>by cases h),(λ_=>by simp),b.SD,b.blank⟩ w v;simp only[ZG,We,Ub,Wc] at e⊢;exact e
def fI (t:Bs)(k first n:Nat)(s:Bs)(start on:Bool)(outs:List (Nat×Bs)):Prop:=(k<=t.length/\di t=outs++rl first n s start on (t.drop k))\/(k=t.length+1/\di t=outs)
theorem RI (t:Bs):rl 1 1 [] true false t=di t:=by obtain⟨q,a,h⟩:=zd t;have b:=sS t 1 1 [] [] [] true false q a 1 a.length h ⟨rfl,λ_=>rfl,(λh=>by cases h),λ_=>rfl,rfl⟩ rfl ak;rw[b];unfold di;rw[h];simp only[We,UI,TK,kP];rfl
theorem fI.start (t:Bs):fI t 0 1 1 [] true false []:= .inl ⟨TS _,by rw[V4,RI];rfl⟩
section
variable {t s:Bs} {k first n:Nat} {start on:Bool} {outs:List (Nat×Bs)}
theorem fI.eq (h:fI t k first n s start on outs)(a:k<=t.length):di t=outs++rl first n s start on (t.drop k):=by
 rcases h with⟨_,h⟩|⟨h,_⟩
 ·exact h
 ·omega
theorem fI.done (h:fI t k first n s start on outs)(a:¬k<=t.length):di t=outs:=by
 rcases h with⟨h,_⟩|⟨_,h⟩
 ·omega
 ·exact h
theorem fI.skip (h:fI t k first n s start on outs)(a:k<t.length)(b:(t[k]==10)=false)(c:(on&&start&&dF t[k])=true):fI t (k+1) first n s start on outs:=by refine .inl ⟨a,?_⟩;rw[h.eq (by omega),T2 a,rl,b,c];rfl
theorem fI.u4 (h:fI t k first n s start on outs)(a:k<t.length)(b:(t[k]==10)=false)(c:(on&&start&&dF t[k])=false):fI t (k+1) first n (s++[t[k]]) false on outs:=by refine .inl ⟨a,?_⟩;rw[h.eq (by omega),T2 a,rl,b,c];rfl
theorem fI.kZ (h:fI t k first n s start on outs)(a:k<t.length)(b:(t[k]==10)=true)(c:(dR s&& !(on&&start))=true):fI t (k+1) first (n+1) (s.dropLast++[32]) true true outs:=by refine .inl ⟨a,?_⟩;rw[h.eq (by omega),T2 a,rl,b,c];rfl
theorem fI.bW (h:fI t k first n s start on outs)(a:k<t.length)(b:(t[k]==10)=true)(c:(dR s&& !(on&&start))=false):fI t (k+1) (n+1) (n+1) [] true false (outs++[(first,s)]):=by refine .inl ⟨a,?_⟩;rw[h.eq (by omega),T2 a,rl,b,c,Ub];rfl
theorem fI.du (h:fI t k first n s start on outs)(b:k=t.length)(a:(dR s&& !(on&&start))=false):fI t (k+1) (n+1) (n+1) [] true false (outs++[(first,s)]):=by refine .inr ⟨by omega,?_⟩;rw[h.eq (by omega),V5.2 (by omega),rl,a];rfl
theorem fI.Og (h:fI t k first n s start on outs)(b:k=t.length)(a:(dR s&& !(on&&start))=true):fI t (k+1) (n+1) (n+1) [] true false (outs++[(first,gg s.dropLast)]):=by refine .inr ⟨by omega,?_⟩;rw[h.eq (by omega),V5.2 (by omega),rl,a];rfl
end
end Go.Mk
namespace Go.Proofs.YtjelacjggijmfaaGreatDoor
open Pl Mk Cp Proofs.Tryz
open RowKit
def jr (c:UInt8):ay:= .int .u8 c.toNat
theorem Tryz.F_:(Tryz.prog.info? 5).map (λa=>(a.zero,a.size,a.bytes))=some (some (.int .u8 0),1,1):=by kernel_rfl
theorem Tryz.Mm:(Tryz.prog.info? 218).map (λa=>(a.zero,a.size,a.bytes))=some (some (.agg #[.int .i64 0,.int .u8 0,.string ⟨#[]⟩,.string ⟨#[]⟩]),4,48):=by kernel_rfl
def dC (w:ax)(B:Nat)(v:ay)(a:ag):Prop:=w.ownsRow B 5 1 v a.length (a.map jr)
theorem dC.nil (w:ax)(B:Nat):dC w B (.slice none 0 0) []:=Uk _ _ _ _
variable {a:ag}
theorem dC.shape {w:ax}{B:Nat}{v:ay}(h:dC w B v a):
 (v= .slice none 0 0/\a=[])\/∃b cap,v= .slice (some ⟨b,0,none⟩) a.length cap/\a.length<=cap/\cap<=maxLen:=by
 rcases h.2 with⟨c,d⟩|⟨b,cap,g,c,d,i,e,f,j,l⟩
 ·exact .inl ⟨c,UH.1 d⟩
 ·exact .inr ⟨b,cap,c,e,f⟩
variable {e:Nat}
theorem dC.cell {w:ax}{B cap:Nat}(h:dC w B (.slice (some ⟨e,0,none⟩) a.length cap) a)(b:Nat)(c:b<a.length):
 w.cell? ⟨e,b,none⟩=some (.int .u8 (a[b].toNat:Int)):=by rw[World.ownsRow.cellAt h b (by omega)];simp[c,jr]
theorem dC.drop {w:ax}{B cap:Nat}(h:dC w B (.slice (some ⟨e,0,none⟩) a.length cap) a)(m:0<a.length):
 dC w B (.slice (some ⟨e,0,none⟩) (a.length-1) cap) a.dropLast:=by
 rcases h.2 with⟨b,c⟩|⟨p,l,d,b,c,f,o,i,g,j⟩
 ·omega
 ·simp only[Yl,WN,abc,and_true,abg] at b;obtain⟨rfl,rfl⟩:=b;refine⟨by simp,.inr ⟨e,cap,d,by simp,c,f,by simp;omega,i,g,?_⟩⟩;rw[aa4,List.map_dropLast,aaT,TR,<-j,Yo];congr 1;omega
theorem dC.conv {w:ax}{B:Nat}{v:ay}(h:dC w B v a):(convert 126 9 v).run prog w= .ok (.string ⟨a.toArray⟩) w:=by
 rcases h.shape with⟨rfl,rfl⟩|⟨f,cap,rfl,g,e⟩
 ·exact Lib.run_convert_nil_bytes w _ _ 5 0 Ui U7 T0
 ·refine aaC w _ _ 5 _ cap a Ui U7 T0 ?_;intro b d;have:=h.cell b d;by_cases c:b=0
  ·subst c;simpa [Addr.add] using this
  ·simpa [Addr.add,c] using this
def rC (x:Nat×ag)(c:List ay):Prop:=∃L a:az,c=[.int .i64 x.1,.int .u8 (rk (br x.2)),.string L,.string a]/\(rk (br x.2)≠120->L=⟨(br x.2).1.left.toArray⟩/\a=⟨(br x.2).1.right.toArray⟩)
def oA:List (Nat×ag)->List ay->Prop
 |[],c=>c=[]
 |x::d,c=>∃a b,c=a++b/\rC x a/\oA d b
theorem rC.length {x:Nat×ag}{c:List ay}(h:rC x c):c.length=4:=by obtain⟨L,a,rfl,-⟩:=h;rfl
theorem oA.fO:∀{f:List (Nat×ag)} {c:List ay} {x:Nat×ag} {d:List ay},oA f c->rC x d->oA (f++[x]) (c++d)
 |[],c,x,d,h,e=>by subst h;exact⟨d,[],by simp,e,rfl⟩
 |y::j,c,x,d,h,e=>by obtain⟨a,b,rfl,i,g⟩:=h;exact⟨a,b++d,by simp,i,oA.fO g e⟩
theorem oA.at:∀{i:List (Nat×ag)} {c:List ay},oA i c->∀(k:Nat) (x:Nat×ag),i[k]?=some x->∃a,rC x a/\∀d,d<4->c[k*4+d]?=a[d]?
 |[],c,h,k,x,e=>by simp at e
 |y::l,c,h,0,x,e=>by
  obtain⟨a,b,rfl,f,g⟩:=h;obtain rfl:y=x:=by simpa using e
  refine⟨a,f,λd j=> ?_⟩;rw[UZ (by rw[f.length];omega)];congr 1;omega
 |y::l,c,h,k+1,x,e=>by obtain⟨a,b,rfl,f,g⟩:=h;obtain⟨o,m,p⟩:=oA.at g k x (by simpa using e);refine⟨o,m,λd j=> ?_⟩;rw[Uq (by rw[f.length];omega),f.length,<-p d j];congr 1;omega
def iM (w:ax)(B:Nat)(v:ay)(a:List (Nat×ag)):Prop:=∃c,oA a c/\w.ownsRow B 218 4 v a.length c
theorem iM.nil (w:ax)(B:Nat):iM w B (.slice none 0 0) []:=⟨[],rfl,Uk _ _ _ _⟩
variable {i o:List ay}
theorem RT {w:ax}{B e f a b n m:Nat}{v u:ay}(j:w.ownsRow B e a v n i)(d:w.ownsRow B f b u m o)(q:e≠f):v.ownBlock=none\/v.ownBlock≠u.ownBlock:=by
 rcases j.2 with⟨rfl,_⟩|⟨g,cap,x,rfl,_,p,_⟩
 ·exact .inl rfl
 ·right;rcases d.2 with⟨rfl,_⟩|⟨l,r,y,rfl,_,c,_⟩
  ·simp[Value.ownBlock]
  ·simp only[Value.ownBlock];intro h;have:g=l :=by simpa using h
   subst this;rw[p] at c;simp at c;exact q c.2
variable {b f:ax}
theorem oc {w:ax}{B e a n:Nat}{v:ay}(h:w.ownsRow B e a v n i)(c:Below w.heap.size w b):b.ownsRow B e a v n i:=by
 refine⟨h.1,?_⟩;rcases h.2 with h1|⟨g,cap,cur,h1,h2,h3,h4⟩
 ·exact .inl h1
 ·exact .inr ⟨g,cap,cur,h1,h2,(c.block g (TN.1 h3).1).trans h3,h4⟩
variable {j:ay}
theorem dC.fO {w:ax}{B:Nat}{v out:ay}{outs:List (Nat×ag)}{c:UInt8}(d:Obj)(u:f.heap.size=B)(l:dC w B v a)(q:iM w B out outs)(g:Below B f w)(h:b.ownsRow B 5 1 j (a.length+1) (a.map jr++[jr c]))(i:(w.alloc d).grownBy b v.ownBlock):dC b B j (a++[c])/\iM b B out outs/\Below B f b :=by have r:=g.size;obtain⟨o,p,e⟩:=q;refine⟨by simpa [dC] using h,⟨o,p,(e.alloc d).kept i (RT (e.alloc d) (T_ l d) (by decide))⟩,?_⟩;refine(g.alloc (by omega) d).grown i (by rw[TM];omega) ?_;intro k m;have:=(l.lt k m).1;omega
theorem iM.fO {w:ax}{B:Nat}{out:ay}{outs:List (Nat×ag)}{d:List ay}{x:Nat×ag}(a:Obj)(q:f.heap.size=B)(o:oA outs i)(m:w.ownsRow B 218 4 out outs.length i)(e:rC x d)(c:Below B f w)(h:b.ownsRow B 218 4 j (outs.length+1) (i++d))(g:(w.alloc a).grownBy b out.ownBlock):iM b B j (outs++[x])/\Below B f b :=by have p:=c.size;refine⟨⟨_,o.fO e,by simpa using h⟩,?_⟩;refine(c.alloc (by omega) a).grown g (by rw[TM];omega) ?_;intro k l;have:=(m.lt k l).1;omega
def xu:Prop:=∀(n:Nat) (s:az) (w:ax),s.size<=4294967200->
 Calls prog 150 #[.int .i64 n,.string s] w λe a=>∃v,e= .returned v/\gH n (br s.data.toList) v/\Below w.heap.size w a
theorem dC.iN {w:ax}{B:Nat}{v:ay}(h:dC w B v a):∃c cap,v= .slice c a.length cap/\a.length<=cap/\(0<a.length->∃b,c=some ⟨b,0,none⟩):=by
 rcases h.shape with⟨rfl,rfl⟩|⟨b,cap,rfl,d,e⟩
 ·exact⟨none,0,rfl,TD _,λh=>by simp at h⟩
 ·exact⟨_,cap,rfl,d,λ_=>⟨b,rfl⟩⟩
theorem oi (w:ax)(a b c d:ay)(t:TypeId):∀(f:Nat) (u:ay),[a,b,c,d][f]?=some u->(w.alloc (.cells #[a,b,c,d] t)).cell? ((⟨w.heap.size,0,none⟩:Addr).add f)=some u:=by
 intro f u e
 match f,e with
 |0,e=>simp at e;subst e;simp[Addr.add]
 |1,e=>simp at e;subst e;simp[Addr.add]
 |2,e=>simp at e;subst e;simp[Addr.add]
 |3,e=>simp at e;subst e;simp[Addr.add]
theorem oh (a b:Int)(e q:IntKind)(L d:az):∀u∈[Value.int e a,.int q b,.string L,.string d],u.oneCell' =true:=by intro u c;simp at c;rcases c with rfl|rfl|rfl|rfl<;>rfl
theorem gH.row {n:Nat}{v:ay}(h:gH n (br (⟨a.toArray⟩:az).data.toList) v):
 ∃L b:az,v= .agg #[.int .i64 n,.int .u8 (rk (br a)),.string L,.string b]/\rC (n,a) [.int .i64 n,.int .u8 (rk (br a)),.string L,.string b]:=by rw[show (⟨a.toArray⟩:az).data.toList=a from by simp] at h;obtain⟨L,b,rfl,c⟩:=h;exact⟨L,b,rfl,L,b,rfl,c⟩
theorem dC.du {w:ax}{B cap m:Nat}(h:dC w B (.slice (some ⟨e,0,none⟩) a.length cap) a)(b:a.length=m+1):
 ∃c:UInt8,dR a=(c==92)/\w.cell? ⟨e,m,none⟩=some (.int .u8 (c.toNat:Int))/\dC w B (.slice (some ⟨e,0,none⟩) m cap) a.dropLast:=by
 refine⟨a[m]'(by omega),?_,h.cell m (by omega),?_⟩
 ·unfold dR;rw[List.getLast?_eq_getElem?,show a.length-1=m from by omega,TH (by omega)];rfl
 ·have:=h.drop (by omega);rwa [b,Nat.add_sub_cancel] at this
end Go.Proofs.YtjelacjggijmfaaGreatDoor
namespace Go.Pl
open Pl Mk Cp Proofs.Tryz
open RowKit
