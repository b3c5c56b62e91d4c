/- . -/
import Derived.Test.YtjelacjggijmfaaGreatDoorYSP5
import Derived.Test.YtjelacjggijmfaaGreatDoorYRPure
set_option linter.all false
set_option maxHeartbeats 2000000
set_option maxRecDepth 20000
namespace Go.Proofs.YtjelacjggijmfaaGreatDoor
open Pl Mk Cp Proofs.Tryz
variable {d g f e i:az}{a j l o:Nat}{b u:aj}{c:fv}{p m q:ay}{r:aA}{t:DataW Unit}
open RowKit Shelf Maps
section
attribute [local go_sem] Kp
structure oQ(n:Nat)(w:ay)(sl:az)(s:aA)(m h k:Nat)(D:DataW Unit)(W:ay):Prop where
 vG:aF W n 120 [sl,.string s]
 cS:aF W (n+1) 4 [.bool false]
 map:Mw W (n+2) k D
 sp:aF W (n+3) 249 [.int .i64 m,.int .i64 h,.map (some (n+2))]
 aP:Below n w W
 size:n+5<=W.heap.size
def Mw.bG(B b k:Nat)(D:DataW Unit)(f:b<B){β:Type}:OwnFrom B (λ(_:β) W=>Mw W b k D):=λ_ X Y g d a c=>d.kept a (λe=>by have:=(c b e.symm).1;omega)
def oQ.bG{B:Nat}{β:Type}(g:a+5<=B):OwnFrom B (λ(_:β) W=>oQ a p d r j l o t W):=λ_ X Y h b m c=>
 ⟨aF.bG B _ _ _ () X Y h b.vG m c,aF.bG B _ _ _ () X Y h b.cS m c,Mw.bG B _ _ _ (by omega) () X Y h b.map m c,aF.bG B _ _ _ () X Y h b.sp m c,
  b.aP.trans ⟨m.os,m.tape,m.output,m.size,λo f=>m.block o (by have:=b.size;omega) (λe=>by have:=(c o e.symm).1;omega)⟩,Ye b.size m.size⟩
structure uS(n:Nat)(w:ay)(W:ay):Prop where
 cS:aF W (n+1) 4 [.bool false]
 aP:Below n w W
def uS.bG{B:Nat}{β:Type}(f:a<=B):OwnFrom B (λ(_:β) W=>uS a p W):=λ_ X Y g b w c=>⟨aF.bG B _ _ _ () X Y g b.cS w c,b.aP.trans ⟨w.os,w.tape,w.output,w.size,λk d=>w.block k (by have:=b.cS.lt;omega) (λe=>by have:=(c k e.symm).1;omega)⟩⟩
abbrev qz (n:Nat):ay->ay->Prop:=eG (λk=>k=n+1\/k=n+2\/k=n+3)
def qz.vi(h:qz a p m):KeepsFrom (a+5) p m:=⟨h.size,λk _ b X _=>(h.block k (X8.1 X).1 (by omega)).trans X⟩
def qz.kp{l:Nat}{X k:Nat}(h:qz j m q)(b:oQ j p d r X a k t m):jn (j+4) l m q:=by
 refine⟨λc f e=>(h.block _ (X8.1 e).1 (by omega)).trans e,λi c f e=>(h.block _ (X8.1 e).1 ?_).trans e,h.size⟩;rintro(rfl|rfl|rfl)
 ·have:=b.cS;unfold aF at this;rw[this]at e;cases e
 ·have⟨o,n,g,_⟩:=b.map;rw[g]at e;cases e
 have:=b.sp;unfold aF at this;rw[this]at e;cases e
def qz.x(h:qz j m q)(b:oQ j p d r l a o t m)(c:aF q (j+1) 4 [.bool false]):uS j p q:=⟨c,h.aP b.aP (by have:=b.size;omega) (λo e=>by omega)⟩
structure yW(c:aj)(m:Nat)(aZ:List (gO×Bool))(p h k:Nat)(A:Aw):Prop where
 tS:∃f,j5 c aZ f p
 tF:Pl.Spec c m 0 0 (λ_=>none)↔Pl.Spec c m p h A
 lR:h<=16
 le:k<=p
def yW.cut{c p:List (gO×Bool)}{x:gO×Bool}{A:Aw}(k:yW b j c a l o A)(i:kJ b (b.length+1) 0=c++x::p):
 a<b.length/\((Pl.cU b a/\x=(bH b a,true)/\∃g,j5 b (c++[x]) g (bH b a).next)\/(¬Pl.cU b a/\x=(⟨0,0,0,0,0⟩,false))):=by
 have⟨f,h⟩:=k.tS;by_cases d:a<b.length
 ·refine⟨d,?_⟩;by_cases e:Pl.cU b a
  ·have⟨g,m,n⟩:=h.step d e;rw[i]at m;have:=acR m;simp only[ob]at this;obtain⟨rfl,_⟩:=this;exact .inl ⟨e,rfl,g,n⟩
  have m:=h.im d e;rw[i]at m;have:=acR m;simp only[ob]at this;exact .inr ⟨e,this.1⟩
 have m:=h.done d;rw[i]at m;simp at m
def II(c:Pl.cU b a):1<=(bH b a).op/\(bH b a).op<=8:=by have d:=c.1;show 1<=Pl.opAt b a/\Pl.opAt b a<=8;generalize Pl.opAt b a=op at*;have e:¬(op=0\/9<=op):=λh=>d (by unfold jt;repeat rw[Yb (by omega)]);omega
def Jj(c:aj)(a:Nat):(bH c a).first<=65535:=by
 have:=Wa c (a+1);have:=yV c (a+1);unfold bH;simp only;split
 ·omega
 split<;>omega
end
section
attribute [local go_sem] Kp
def aF.y7{w:TypeId}(h:aF p a w [d,g,f,e,i]):
 p.cell? ⟨a,0,none⟩=some d/\p.cell? ⟨a,1,none⟩=some g/\p.cell? ⟨a,2,none⟩=some f/\p.cell? ⟨a,3,none⟩=some e/\p.cell? ⟨a,4,none⟩=some i:=by unfold aF at h;simp[World.cell?,h]
abbrev rP (n:Nat):ay->ay->Prop:=eG (λk=>k=n+2\/k=n+3)
def wI{l:Nat}{X k:Nat}(h:rP j m q)(b:oQ j p d r X a k t m):
 KeepsFrom (j+5) m (q.ψ (j+1) 0 (.bool false))/\jn (j+4) l m (q.ψ (j+1) 0 (.bool false))/\uS j p (q.ψ (j+1) 0 (.bool false)):=by have c:qz j m (q.ψ (j+1) 0 (.bool false)):=(h.mono (λk e=> .inr e)).set (.inl rfl) 0 _;exact⟨c.vi,c.kp b,c.x b ((h.row b.cS (by omega)).set 0 _)⟩
def rP.cS(h:rP j m q)(b:oQ j p d r l a o t m):
 q.cell? ⟨j+1,0,none⟩=some (.bool false)/\q.frozen? (η (j+1) 0)=false:=
 ⟨(h.row b.cS (by omega)).cell 0 (by simp),(h.row b.cS (by omega)).frozen 0⟩
def BK(a:fY)(m c:Nat)(s:aA)(n b:Nat)(x:gO×Bool):Act:={tmps:= #[.agg #[.slice a m c,.string s],π n,π (n+1),π (n+3),
 π b,.bool x.2,π n,.slice a m c,ι m,.map (some (n+2)),.agg #[ι m,ι 0,.map (some (n+2))],.pointer (some ⟨n,1,none⟩),.string s,
 .func (.func 169) #[] #[π (n+4)],gE x.1,.bool x.2,undef,undef,undef,undef,undef,undef,undef,undef,undef,undef,undef,undef,undef,undef,undef,undef,undef,undef,undef,undef,undef,undef,undef,undef,undef,undef,undef,undef,undef,undef,undef,undef,undef],defers:=[]}
def qw(a:fY)(m b:Nat)(s:aA)(w:ay):ay:=((((w.alloc (.cells #[.slice a m b,.string s] 120)).alloc (.cells #[.bool false] 4)).alloc (.map #[] 0)).alloc (.cells #[ι m,ι 0,.map (some (w.heap.size+2))] 249)).alloc (.cells #[.string s] 9)
def Ou(a:fY)(m h:Nat)(s:aA)(w:ay):oQ w.heap.size w (.slice a m h) s m 0 0 (.map []) (qw a m h s w)/\(qw a m h s w).heap[w.heap.size+4]?=some (.cells #[.string s] 9 (0,0))/\(qw a m h s w).heap.size=w.heap.size+5:=by
 have e:(qw a m h s w).heap.size=w.heap.size+5:=by simp[qw]
 have d:μ w (qw a m h s w):=((((ak w _).alloc (by simp only[X_];omega) _).alloc (by simp only[X_];omega) _).alloc (by simp only[X_];omega) _).alloc (by simp only[X_];omega) _;have f:∀k:Nat,(qw a m h s w).heap[k]?=(((((w.heap.push (.cells #[.slice a m h,.string s] 120)).push (.cells #[.bool false] 4)).push (.map #[] 0)).push (.cells #[ι m,ι 0,.map (some (w.heap.size+2))] 249)).push (.cells #[.string s] 9))[k]?:=λ_=>rfl;have g:Mw (qw a m h s w) (w.heap.size+2) 0 (.map []):=by
  have b:=World.ownsMap_made (H:=Unit) ((w.alloc (.cells #[.slice a m h,.string s] 120)).alloc (.cells #[.bool false] 4)) prog 3 (plainElem prog 3);have c:((w.alloc (.cells #[.slice a m h,.string s] 120)).alloc (.cells #[.bool false] 4)).heap.size=w.heap.size+2:=by simp
  rw[c]at b;exact(b.alloc _).alloc _
 refine⟨⟨?_,?_,g,?_,d,by omega⟩,?_,e⟩;all_goals(try unfold aF);rw[f];simp only[afT,Array.size_push];repeat (first|rw[Yd trivial]|rw[Yd (by omega)]|rw[Yb (by omega)])
 all_goals rfl
def SU(a:fY)(m cap:Nat)(s:aA)(w:ay)(W:s.size<=8388608):
 CallsIn Fence.wide 9 prog 81 #[.agg #[.slice a m cap,.string s]] w λe w'=>(∃ap:Bool,e=.returned (.bool ap)/\(ap=true↔Pl.Spec s.data.toList m 0 0 (λ_=>none)))/\Below w.heap.size w w':=by
 have ba:= @B' prog;refine acs func81 rfl trivial ?_;simp only[ntmps81,ZM,Ya,Yr,Nat.reduceAdd,Nat.reduceSub,Rr,RR,R3,R1,Y2,Y3];gi_wp2_with fail
 refine⟨trivial,(Zm.2 (instructions_any)).mono ?_⟩;rintro e w2⟨rfl,rfl⟩;gi_wp2_with fail
 simp only[ml,Nat.reduceAdd];clear ba;have⟨aM,aG,P⟩:=Ou a m cap s w;unfold qw at aM aG P;generalize ((((w.alloc (.cells #[.slice a m cap,.string s] 120)).alloc (.cells #[.bool false] 4)).alloc (.map #[] 0)).alloc (.cells #[.int .i64 m,.int .i64 0,.map (some (w.heap.size+2))] 249)).alloc (.cells #[.string s] 9)=V at*;generalize hn:w.heap.size=n at*;have ai:=YJ s;refine Ba (gf:=169) (lb:= #[.pointer (some ⟨n+4,0,none⟩)]) rfl (mL func169 (by kernel_rfl) rfl)
  (I1 s (n+4) V W aG) jn.trans (λb y aY o' _ hl ho=>jn.putObj _ b y aY o' hl ho) (X5 _ _) (λ_=>rfl)
  (λaZ b=>∃d h k A D,yW s.data.toList m aZ d h k A/\kE D A/\oQ n w (.slice a m cap) s m h k D b)
  (λc _ b=>c=.ret/\(¬Pl.Spec s.data.toList m 0 0 (λ_=>none))/\uS n w b)
  (λs X Y row W ag hr=>by obtain⟨d,h,k,A,D,o,L,R⟩:=W;exact⟨d,h,k,A,D,o,L,oQ.bG (B:=V.heap.size) (by omega) () X Y row R ag hr⟩)
  (λc s X Y row W ag hr=>by obtain⟨o,L,R⟩:=W;exact⟨o,L,uS.bG (B:=V.heap.size) (by omega) () X Y row R ag hr⟩)
  ⟨0,0,0,λ_=>none,.map [],⟨⟨_,j5.start _⟩,Iff.rfl,by omega,by omega⟩,kE.start,aM⟩
  (λx a' b=>∃Bx,n+4<Bx/\aF b Bx 254 [.int .u8 x.1.op,.int .i64 x.1.bp,.int .i64 x.1.next,.int .i64 x.1.first,.int .i64 x.1.pN]/\a' =BK a m cap s n Bx x)
  (λx a' s X Y row W ag hr=>by obtain⟨Bx,o,L,R⟩:=W;exact⟨Bx,o,aF.bG V.heap.size _ _ _ () X Y row L ag hr,R⟩) ?assign ?body ?done ?stop
 case assign=>
  rintro y aZ⟨j,ok⟩U b K _ hi Q;have bi:n+5<=b.heap.size:=by obtain⟨_,_,_,_,_,_,_,h⟩:=hi;exact h.size
  unfold xu gE;gi_wp2
  have hb:=ak b (.cells #[.int .u8 j.op,.int .i64 j.bp,.int .i64 j.next,.int .i64 j.first,.int .i64 j.pN] 254);refine Q _ _ (qj hb) (jn.aP (by omega) hb) ?_ ⟨b.heap.size,by omega,aF.bq b 254 _,rfl⟩;obtain⟨d,h,k,A,D,o,L,R⟩:=hi;exact⟨d,h,k,A,D,o,L,oQ.bG (B:=n+5) ax () b _ none R (Ab hb) (λap e=>by cases e)⟩
 case body=>
  rintro y aZ x U a' b hL⟨d,h,k,A,D,F,S,g⟩⟨Bx,be,ah,rfl⟩;have aI:=g.size;have av:rP n b b:=eG.refl _ _;obtain⟨hp,⟨H,rfl,aL,aW⟩|⟨H,rfl⟩⟩:=F.cut hL
  ·have an:=(rj (m:=m) (h:=h) (A:=A) hp);have⟨o,h8⟩:=II H;have hF:=Jj s.data.toList d;have a3:=yU H;have bc:=sY H;have aE:(bH s.data.toList d).bp=d:=rfl;have aX:(bH s.data.toList d).op=Pl.opAt s.data.toList d:=rfl;rw[<-aX]at an;clear aX;generalize a2:bH s.data.toList d=j at*;have af:=aC an;have p:=aC g;clear an hL;have⟨d0,d1,d2,d3,d4⟩:=ah.y7;have a4:d<=16777216:=by omega
   have a7:j.next<=8388608:=by omega
   have aK:=aC aE;have CA:=Fx (n+3) (n+2) k m h j.bp D A b g.sp g.map S (by rw[aE];exact a4) (by omega);clear g ai a3 a2 aE;unfold BK gE;simp only;gi_wp2_with fail
   refine⟨trivial,(so y (Zm.2 CA)).mono ?_⟩;rintro e I⟨⟨r1,rfl,M⟩,T,C⟩;rw[aK.u]at M T;have aq:=p.u.sp.grown C (λe=>by have:=YW e;omega);have aa:rP n b I:=(eG.xc C).mono (λk e=> .inl (YW e));clear C d0 d1 d2 d3 d4 CA;cases r1 with
   |false=>
    have J:Hid (¬Pl.Spec s.data.toList m 0 0 (λ_=>none)):=by show ¬_;rw[F.tF,af.u];rintro⟨q,_⟩;have:=M.2 q;cases this
    have⟨O,f1⟩:=aa.cS p.u;have i:=wI (l:=y) aa p.u;clear M;gi_wp2_with fail
    refine⟨trivial,?_⟩;gi_wp2_with fail
    refine⟨trivial,?_⟩;gi_wp2_with fail
    exact⟨P▸i.1,i.2.1,rfl,J.u,i.2.2⟩
   |true=>
    have a9:=M.1 rfl;clear M;have aw:=aa.row ah (by omega);have⟨d0,d1,d2,d3,d4⟩:=aw.y7;have CN:=Oh (n+3) (n+2) m h j I aq o h8;gi_wp2_with fail
    refine⟨trivial,(so y (Zm.2 CN)).mono ?_⟩;rintro e W3⟨⟨r2,rfl,k2⟩,ad⟩;have ab:rP n b W3:=aa.trans (eG.Ki ad);have a5:Hid (Mw W3 (n+2) k (D.del (kI d))):=T.kept (Ab ad) (by simp);have am:=aw.aD ad;have ac:=aq.aD ad;clear ad d0 d1 d2 d3 d4 CN aq;cases r2 with
    |false=>
     have J:Hid (¬Pl.Spec s.data.toList m 0 0 (λ_=>none)):=by show ¬_;rw[F.tF,af.u];rintro⟨_,_,q,_⟩;have:=k2.2 q;cases this
     have⟨O,f1⟩:=ab.cS p.u;have i:=wI (l:=y) ab p.u;clear k2 am;gi_wp2_with fail
     refine⟨trivial,?_⟩;gi_wp2_with fail
     exact⟨P▸i.1,i.2.1,rfl,J.u,i.2.2⟩
    |true=>
     have a1:=k2.1 rfl;clear k2;have⟨d0,d1,d2,d3,d4⟩:=am.y7;by_cases ae:Pl.ig j.op<=h
     ·have CS:=T5 (n+3) (n+2) k m h j _ (Pl.del A d) W3 ac o h8 F.lR ae a7 hF a5.u (S.del d) (by have:=F.le;omega) (by omega);have a0:=aC ae;clear am ae;gi_wp2_with fail
      refine⟨trivial,(so y (Zm.2 CS)).mono ?_⟩;rintro e W4⟨r3,rfl,hP⟩;have r:rP n b W4:=ab.trans (hP.kept.mono (λk e=>by omega));clear d0 d1 d2 d3 d4 CS;cases r3 with
      |false=>
       have J:Hid (¬Pl.Spec s.data.toList m 0 0 (λ_=>none)):=by show ¬_;rw[F.tF,af.u];rintro⟨_,_,_,_,N,Z,_⟩;have:=hP.ok.2 ⟨N,Z⟩;cases this
       have⟨O,f1⟩:=r.cS p.u;have i:=wI (l:=y) r p.u;clear r hP;gi_wp2_with fail
       exact⟨P▸i.1,i.2.1,rfl,J.u,i.2.2⟩
      |true=>
       have HG:Hid (∃d h k A D,yW s.data.toList m (aZ++[(j,true)]) d h k A/\kE D A/\oQ n w (.slice a m cap) s m h k D W4):=by
        have⟨N,Z⟩:=hP.ok.1 rfl;have⟨o1,D',o2,o3⟩:=hP.on rfl;have g:=p.u;have F:=F;refine⟨j.next,Pl.eX j.op h,k+1,nC A j h,D',⟨⟨aL,aW⟩,F.tF.trans (af.u.trans ⟨λe=>e.2.2.2.2.2.2,λe=>⟨a9,H,a1,a0.u,N,Z,e⟩⟩),N,by have:=F.le;omega⟩,?_,
         r.row g.vG (by omega),r.row g.cS (by omega),o2,o1,r.aP g.aP (by omega) (λk e=>by omega),Ye aI r.size⟩
        unfold nC;rw[aK.u];exact o3
       have HK:Hid (KeepsFrom (n+5) b W4/\jn (n+4) y b W4):=⟨qz.vi (r.mono (λk e=> .inr e)),qz.kp (r.mono (λk e=> .inr e)) p.u⟩;clear r hP;gi_wp2_with fail
       exact⟨P▸HK.u.1,HK.u.2,HG.u⟩
     have CS:=TL (n+3) (n+2) m h j W3 ac o h8 (by omega);have J:Hid (¬Pl.Spec s.data.toList m 0 0 (λ_=>none)):=by show ¬_;rw[F.tF,af.u];rintro⟨_,_,_,q,_⟩;exact ae q
     clear am ae;gi_wp2_with fail
     refine⟨trivial,(so y (Zm.2 CS)).mono ?_⟩;rintro e W4⟨rfl,aU⟩;have r:rP n b W4:=ab.trans (eG.Ki aU);have⟨O,f1⟩:=r.cS p.u;have i:=wI (l:=y) r p.u;clear r aU d0 d1 d2 d3 d4 CS;gi_wp2_with fail
     exact⟨P▸i.1,i.2.1,rfl,J.u,i.2.2⟩
  have J:Hid (¬Pl.Spec s.data.toList m 0 0 (λ_=>none)):=by
   show ¬_;rw[F.tF,rj hp];exact λe=>H e.2.1
  have⟨O,f1⟩:=av.cS g;have i:=wI (l:=y) av g;clear g hL av ai;unfold BK gE;simp only;gi_wp2_with fail
  refine⟨trivial,?_⟩;gi_wp2_with fail
  refine⟨trivial,?_⟩;gi_wp2_with fail
  refine⟨trivial,?_⟩;gi_wp2_with fail
  exact⟨P▸i.1,i.2.1,rfl,J.u,i.2.2⟩
 case done=>
  rintro Dd b hD⟨d,h,k,A,D,F,S,g⟩Q;have aI:=g.size;have⟨f,aj⟩:=F.tS;have aR:¬d<s.data.toList.length:=by
   intro hp;by_cases H:Pl.cU s.data.toList d
   ·have⟨aL,o,L⟩:=aj.step hp H;have:=Yg List.length o;simp at this
   have o:=aj.im hp H;have:=Yg List.length o;simp at this
  have ao:d=s.size:=by have:=aj.le;omega
  have aB:=(BG (m:=m) (h:=h) (A:=A) aR);rw[<-F.tF]at aB;have aH:=aC aB;have O:=g.vG.cell 1 (by simp);simp only[X6,X7]at O;have CA:=Fx (n+3) (n+2) k m h d D A b g.sp g.map S (by omega) (by omega);have p:=aC g;have az:=aC ao;rw[ao]at CA;clear aj aR aB g ai ao;gi_wp2_with fail
  refine⟨trivial,(Zm.2 CA).mono ?_⟩;rintro e I⟨⟨r1,rfl,M⟩,T,C⟩;have g:=p.u;have au:=g.sp.grown C (λe=>by have:=YW e;omega);have w1:=au.cell 1 (by simp);have w2:=au.cell 2 (by simp);simp only[X6,X7]at w1 w2;have al:=g.cS.grown C (λe=>by have:=YW e;omega);have r0:=al.cell 0 (by simp);simp only[X6]at r0;have f0:=al.frozen 0;have bf:=λty=>T.len (t:=247) (e:=3) Z_ ty;have aS:=(C.block Dd (X8.1 Q).1 (λe=>by have:=YW e;omega)).trans Q;have aN:=g.aP.trans ⟨C.os,C.tape,C.output,C.size,λk hk=>C.block k (by omega) (λe=>by have:=YW e;omega)⟩;have ar:=(S.del d).empty (az.u▸T);rw[az.u]at ar;have HE:=aC ar;have aO:=aC aS;clear g au C ar aS O CA;generalize Maps.size (D.del (kI s.size))=z at*;have G:Hid (∀E:Bool,aF ((I.setCell ⟨n+1,0,none⟩ (.bool E)).putObj Dd (.deferred none)) (n+1) 4 [.bool E]/\(I.setCell ⟨n+1,0,none⟩ (.bool E)).heap[Dd]?=some (.deferred (some []))/\Below n w ((I.setCell ⟨n+1,0,none⟩ (.bool E)).putObj Dd (.deferred none))):=by intro E;have q0:aF (I.setCell ⟨n+1,0,none⟩ (.bool E)) (n+1) 4 [.bool E]:=al.set 0 _;refine⟨(Zo (by omega)).trans q0,(Ys _ _ _ _ (by simp;omega)).trans aO.u,?_⟩;have bb:Below n w (I.setCell ⟨n+1,0,none⟩ (.bool E)):=aN.setCell (p:=⟨n+1,0,none⟩) (by simp) _;exact bb.trans ((X5 _ _).grown (G1 _ Dd _) (by have:=q0.lt;omega) (λk e=>by cases e;omega))
  have HL:Hid (∀E:Bool,(E=true↔r1=true/\h=0/\z=0)->(E=true↔Pl.Spec s.data.toList m 0 0 (λ_=>none))):=by
   intro E hR;rw[hR,M,aH.u,az.u,HE.u];refine⟨λ⟨N,Z,q3⟩=>⟨N,Z,λq hq=>?_⟩,λ⟨N,Z,q3⟩=>⟨N,Z,λq=>?_⟩⟩
   ·have:=q3 q;unfold Pl.del at this;rwa [Yb hq]at this
   unfold Pl.del;split
   ·rfl
   rename_i hq;exact q3 q hq
  clear HE aH p aO Q M;cases r1 with
  |false=>
   gi_wp2_with fail
   refine⟨by simp,.inl ⟨_,_,rfl,po (G.u false).2.1,?_⟩⟩;have v:=(G.u false).1.cell 0 (by simp);simp only[X6]at v;refine⟨.bool false,?_,⟨false,rfl,HL.u false (by simp)⟩,by rw[hn];exact(G.u false).2.2⟩;simp[results,results81,go_sem,v]
  |true=>
   by_cases h0:h=0
   ·have H0:=aC h0;have b0:((h:Int)==0)=true:=by rw[Zj];omega
    by_cases hz:z=0
    ·have HZ:=aC hz;have bz:((z:Int)==0)=true:=by rw[Zj];omega
     gi_wp2_with fail
     refine⟨by simp,.inl ⟨_,_,rfl,po (G.u true).2.1,?_⟩⟩;have v:=(G.u true).1.cell 0 (by simp);simp only[X6]at v;refine⟨.bool true,?_,⟨true,rfl,HL.u true (by simp[H0.u,HZ.u])⟩,by rw[hn];exact(G.u true).2.2⟩;simp[results,results81,go_sem,v]
    have HZ:=aC hz;have bz:((z:Int)==0)=false:=by rw[Yi];omega
    gi_wp2_with fail
    refine⟨by simp,.inl ⟨_,_,rfl,po (G.u false).2.1,?_⟩⟩;have v:=(G.u false).1.cell 0 (by simp);simp only[X6]at v;refine⟨.bool false,?_,⟨false,rfl,HL.u false (by simpa using λ_=>HZ.u)⟩,by rw[hn];exact(G.u false).2.2⟩;simp[results,results81,go_sem,v]
   have H0:=aC h0;have b0:((h:Int)==0)=false:=by rw[Yi];omega
   gi_wp2_with fail
   refine⟨by simp,.inl ⟨_,_,rfl,po (G.u false).2.1,?_⟩⟩;have v:=(G.u false).1.cell 0 (by simp);simp only[X6]at v;refine⟨.bool false,?_,⟨false,rfl,HL.u false (by simpa using λe=>absurd e H0.u)⟩,by rw[hn];exact(G.u false).2.2⟩;simp[results,results81,go_sem,v]
 rintro D c aZ U b hD hL⟨rfl,hp,hX⟩Q;have HP:=aC hp;have a6:∀o',Below n b (b.putObj D o'):=λo'=>(X5 _ b).grown (G1 b D o') (by have:=hX.cS.lt;omega) (λk e=>by cases e;omega);have s0:aF (b.putObj D (.deferred none)) (n+1) _ _:=(Zo (by omega)).trans hX.cS;gi_wp2_with fail
 refine⟨by simp,.inl ⟨_,_,rfl,po Q,?_⟩⟩;refine⟨.bool false,?_,⟨false,rfl,by simpa using HP.u⟩,by rw[hn];exact hX.aP.trans (a6 _)⟩;have v:=s0.cell 0 (by simp);simp only[X6]at v;simp[results,results81,go_sem,v]
end
def aK(a:hU):az:=.string ⟨a.toArray⟩
def Tryz.kZ:(Tryz.prog.info? 9).map (λa=>(a.zero,a.size,a.bytes))=some (some (ε),1,16):=by kernel_rfl
structure oS(s:aj)(n k:Nat)(r:aj)(aE:fv):Prop where
 eq:Pl.a_ n (s.drop 4)=(Pl.a_ (n-k) r).map (λx=>(aE++x.1,x.2))
 len:aE.length=k
 le:k<=n
 size:r.length<=s.length
def oS.start(s:aj)(n:Nat):oS s n 0 (s.drop 4) []:=⟨by simp,rfl,Yh _,by simp⟩
def oS.next(h:oS u a j b c)(s:j<a)(d:2<=b.length/\2+two b 0<=b.length):
 oS u a (j+1) (b.drop (2+two b 0)) (c++[(b.drop 2).take (two b 0)]):=by refine⟨?_,by simp[h.len],s,by have:=h.size;simp;omega⟩;rw[h.eq,show a-j=(a-(j+1))+1 from by omega,QO d]
def oS.im(h:oS u a j b c)(d:j<a)(s:¬(2<=b.length/\2+two b 0<=b.length)):Pl.a_ a (u.drop 4)=none:=by rw[h.eq,show a-j=(a-(j+1))+1 from by omega,Tt s];rfl
def oS.done(h:oS u a j b c)(d:¬j<a):Pl.a_ a (u.drop 4)=some (c,b)/\c.length=a:=by
 have:=h.le;obtain rfl:j=a:=by omega
 have s:=h.eq;rw[ta]at s;rw[s];exact⟨by simp[Pl.a_],h.len⟩
structure PX(s:aj)(w:ay)(e:Ending)(w':ay):Prop where
 cS:(Pl.load s=none/\e=.returned (.tuple #[.agg #[ς,.string ⟨#[]⟩],.bool false]))\/
  ∃ss c b,Pl.load s=some (ss,c)/\e=.returned (.tuple #[.agg #[ξ b ss.length ss.length,.string ⟨c.toArray⟩],.bool true])/\aF w' b 9 (ss.map aK)/\w.heap.size<=b
 aP:μ w w'
def P7(s:aA):(decide ((⟨#[80,49]⟩:aA).size<=s.size)&&((s.extract 0 (⟨#[80,49]⟩:aA).size).toList==(⟨#[80,49]⟩:aA).toList))=true↔2<=s.data.toList.length/\s.data.toList.take 2=[80,49]:=by have a:(⟨#[80,49]⟩:aA).size=2:=rfl;rw[a,Lib.extract_toList,Zx,<-YJ];simp
def Vo(a:fv)(n:Nat)(b:aj)(h:a.length<n):
 (a.map aK++List.replicate (n-a.length) (ε)).set a.length (σ b)=(a++[b]).map aK++List.replicate (n-(a++[b]).length) (ε):=by rw[Zc _ _ (by simp)];simp only[Yk,ta,Yy,YE,Z9,X4,Ya,Yr,YB];rw[show n-a.length=(n-(a.length+(0+1)))+1 from by omega,afU];rfl
structure mE(w:ay)(B n:Nat)(aE:fv)(W:ay):Prop where
 cS:aF W w.heap.size 120 [ς,.string ⟨#[]⟩]
 row:aF W B 9 (aE.map aK++List.replicate (n-aE.length) (Value.string ⟨#[]⟩))
 aP:μ w W
 lt:w.heap.size<B
def mE.aD(h:mE p a j c m)(B:μ m q):mE p a j c q:=⟨h.cS.aD B,h.row.aD B,h.aP.trans (B.mono (by have:=h.cS.lt;omega)),h.lt⟩
def mE.put{w:ay}{X:ay}(h:mE w a j c X)(d:c.length<j)(B:aj):mE w a j (c++[B]) (X.ψ a c.length (σ B)):=by have b:=h.lt;refine⟨h.cS.dI (by omega) _ _,?_,h.aP.setCell (p:=η a c.length) (by show w.heap.size<=a;omega) _,b⟩;rw[<-Vo c j B d];exact h.row.set _ _
def mE.cell{w:ay}{B n:Nat}{X:ay}(h:mE w B n c X)(a:c.length<n):∃v,X.cell? ⟨B,c.length,none⟩=some v:=⟨_,h.row.cell c.length (by simp;omega)⟩
def mE.out{w:ay}{X:ay}(h:mE w a j c X)(B b:az):
 ((X.ψ w.heap.size 0 B).ψ w.heap.size 1 b).cell? ⟨w.heap.size,0,none⟩=some B/\((X.ψ w.heap.size 0 B).ψ w.heap.size 1 b).cell? ⟨w.heap.size,1,none⟩=some b/\
 aF ((X.ψ w.heap.size 0 B).ψ w.heap.size 1 b) a 9 (c.map aK++List.replicate (j-c.length) (ε))/\μ w ((X.ψ w.heap.size 0 B).ψ w.heap.size 1 b):=by have:=h.lt;have d:=(h.cS.set 0 B).set 1 b;refine⟨by simpa using d.cell 0 (by simp),by simpa using d.cell 1 (by simp),(h.row.dI (by omega) _ _).dI (by omega) _ _,?_⟩;exact(h.aP.setCell (p:=η w.heap.size 0) ax _).setCell (p:=η w.heap.size 1) ax _
def P_(a:hU)(w:ay)(G:a.length<=8388608):
 Calls prog 80 #[σ a] w λe w'=>PX a w e w':=by
 have s:=qm a;have y:=ea a;have q:=P7 ⟨a.toArray⟩;rw[s]at q;by_cases f:2<=a.length/\a.take 2=[80,49]
 ·have H:=q.2 f;have K:(⟨#[80,49]⟩:aA).size<=(⟨a.toArray⟩:aA).size:=by rw[y];exact f.1
  have M:(((⟨a.toArray⟩:aA).extract 0 (⟨#[80,49]⟩:aA).size).toList==(⟨#[80,49]⟩:aA).toList)=true:=by rw[Zn]at H;exact H.2
  have r:=λw=>MA ⟨a.toArray⟩ ⟨#[80,49]⟩ w K M;have L:(⟨a.toArray⟩:aA).extract (⟨#[80,49]⟩:aA).size (⟨a.toArray⟩:aA).size=⟨(a.drop 2).toArray⟩:=by apply ij;rw[ZQ,s];rfl
  rw[L]at r;by_cases F:4<=a.length
  ·have ab:two (a.drop 2) 0=two a 2:=by
    unfold two;simp[List.getD_eq_getElem?_getD]
   have x:=λw=>zT ⟨(a.drop 2).toArray⟩ w (by rw[ea,Zu];omega);have aa:(⟨(a.drop 2).toArray⟩:aA).extract 2 (⟨(a.drop 2).toArray⟩:aA).size=⟨(a.drop 4).toArray⟩:=by apply ij;rw[ZQ,qm,z6]
   rw[aa,qm,ab]at x;by_cases hn:two a 2<=1000
   ·have ad:Pl.load a=Pl.a_ (two a 2) (a.drop 4):=by
     unfold Pl.load;rw[Yd ⟨F,f.2,hn⟩]
    have ag:=oS.start a (two a 2);have j:=aC ad;generalize two a 2=n at*;have ai:=adG (P:=prog) 30 9 (ε) 16 YU Tryz.kZ rfl .i64 .i64 n (by omega) (by omega);have HL:=aC G;go_in;go_wp2_with fail
    refine(r _).mono ?_;rintro e Z⟨rfl,rfl⟩;go_wp2_with fail
    refine κ (x _) λh o=>?_;go_wp2_with fail
    have am:Hid (mE w h.heap.size n [] (h.alloc (.cells (madeCells #[ε] n) 9))):=by have N:=ak w (.cells #[ς,ε] 120);have g:=(aF.bq w 120 [ς,ε]).aD o;have S:=g.lt;refine⟨g.alloc _,?_,(N.tr o).alloc (by omega) _,S⟩;simpa using aF.oj h 9 (ε) n
    generalize hB:h.heap.size=B at*;generalize ao:h.alloc (.cells (madeCells #[ε] n) 9)=V2 at*;go_loopw [4,34] (λah V wr=>∃(k:Nat) (b:aj) (i:fv),ah=σ b/\V=ι k/\Hid (oS a n k b i)/\Hid (mE w B n i wr)) (λ_ V _=>n-aV V)
    case atStart=>exact⟨0,a.drop 4,[],rfl,rfl,ag,am⟩
    obtain⟨k,b,i,rfl,rfl,l,d⟩:=hrel;have m:=l.u.len;have D:=Ye l.u.size HL.u;by_cases U:k<n
    ·by_cases t:2<=b.length/\2+two b 0<=b.length
     ·have z:=Me b wr t D;have Y:=aC (l.u.next U t);generalize (b.drop 2).take (two b 0)=X at*;generalize b.drop (2+two b 0)=tail at*;go_wp2_with fail
      refine κ z λT E=>?_;have c:=d.u.aD E;have⟨v0,W⟩:=c.cell (by omega);have ac:=c.row.frozen i.length;rw[m]at W ac;have R:Hid (mE w B n (i++[X]) (T.ψ B k (σ X))):=by have:=c.put (by omega) X;rwa [m]at this
      go_wp2_with fail
      go_roundw
      case rel=>exact⟨k+1,tail,_,rfl,by go_num,Y,R⟩
      simp only[aV];omega
     have z:=Mn b wr t D;have Y:=aC (l.u.im U t);go_wp2_with fail
     refine κ z λT E=>?_;have c:=d.u.aD E;have⟨v0,W⟩:=c.cell (by omega);have ac:=c.row.frozen i.length;rw[m]at W ac;have R:Hid (mE w B n (i++[[]]) (T.ψ B k (ε))):=by have:=c.put (by omega) [];rwa [m]at this
     have S:=c.lt
     have I:=c.cS.cell 0 (by simp);have A:=c.cS.cell 1 (by simp);have f0:=c.cS.frozen 0;have f1:=c.cS.frozen 1;simp only[X6,X7]at I A;go_wp2_with fail
     obtain⟨J,C,-,O⟩:=R.u.out (ς) (ε);refine Yw (v:=.tuple #[.agg #[ς,ε],.bool false]) ?_ rfl ⟨.inl ⟨j.u.trans Y.u,rfl⟩,O⟩;simp[results,results80,go_sem,J,C]
    have HD:=aC (l.u.done U);have I:=d.u.cS.cell 0 (by simp);have A:=d.u.cS.cell 1 (by simp);have f0:=d.u.cS.frozen 0;have f1:=d.u.cS.frozen 1;simp only[X6,X7]at I A;have S:=d.u.lt;go_wp2_with fail
    have⟨an,af⟩:=HD.u;have⟨J,C,o2,O⟩:=d.u.out (ξ B n n) (σ b);rw[af,ta,List.replicate_zero,ZR]at o2;refine Yw (v:=.tuple #[.agg #[ξ B n n,σ b],.bool true]) ?_ rfl ⟨.inr ⟨i,b,B,j.u.trans an,by rw[af],o2,by omega⟩,O⟩;simp[results,results80,go_sem,J,C]
   have j:Hid (Pl.load a=none):=by
    show _=_;unfold Pl.load;rw[Yb (λe=>hn e.2.2)]
   generalize two a 2=n at*;have ap:(1000:Int)<n:=by omega
   go_in;go_wp2_with fail
   refine(r _).mono ?_;rintro e Z⟨rfl,rfl⟩;go_wp2_with fail
   refine κ (x _) λh o=>?_;have g:=(aF.bq w 120 [ς,ε]).aD o;have N:=ak w (.cells #[ς,ε] 120);have al:=N.tr o;have I:=g.cell 0 (by simp);have A:=g.cell 1 (by simp);have f0:=g.frozen 0;have f1:=g.frozen 1;simp only[X6,X7]at I A;have Q:=(g.set 0 (ς)).set 1 (ε);have J:=aC (Q.cell 0 (by simp));have C:=aC (Q.cell 1 (by simp));go_wp2_with fail
   have p0:=J.u;have p1:=C.u;simp only[Zd,Y0,X6,X7]at p0 p1;refine Yw (v:=.tuple #[.agg #[ς,ε],.bool false]) ?_ rfl ⟨.inl ⟨j.u,rfl⟩,(al.setCell (p:=η w.heap.size 0) ax _).setCell (p:=η w.heap.size 1) ax _⟩;simp[results,results80,go_sem,p0,p1]
  have x:=λw=>Es ⟨(a.drop 2).toArray⟩ w (by rw[ea,Zu];omega);have j:Hid (Pl.load a=none):=by show _=_;unfold Pl.load;rw[Yb (λe=>F e.1)]
  go_in;go_wp2_with fail
  refine(r _).mono ?_;rintro e Z⟨rfl,rfl⟩;go_wp2_with fail
  refine(x _).mono ?_;rintro e h⟨rfl,rfl⟩;go_wp2_with fail
  refine Yw (v:=.tuple #[.agg #[ς,ε],.bool false]) ?_ rfl ⟨.inl ⟨j.u,rfl⟩,ak w _⟩;simp[results,results80,go_sem]
 have ae:(decide ((⟨#[80,49]⟩:aA).size<=(⟨a.toArray⟩:aA).size)&&(((⟨a.toArray⟩:aA).extract 0 (⟨#[80,49]⟩:aA).size).toList==(⟨#[80,49]⟩:aA).toList))=false:=by
  rw[ab_];exact λe=>f (q.1 e)
 have r:=λw=>M4 ⟨a.toArray⟩ ⟨#[80,49]⟩ w ae;have j:Hid (Pl.load a=none):=by show _=_;unfold Pl.load;rw[Yb (λe=>f ⟨by omega,e.2.1⟩)]
 go_in;go_wp2_with fail
 refine(r _).mono ?_;rintro e Z⟨rfl,rfl⟩;go_wp2_with fail
 refine Yw (v:=.tuple #[.agg #[ς,ε],.bool false]) ?_ rfl ⟨.inl ⟨j.u,rfl⟩,ak w _⟩;simp[results,results80,go_sem]
def fJ(w:ay)(B:Nat)(v:az)(a:fv):Prop:=w.ownsRow B 9 1 v a.length (a.map aK)
def fJ.nil(w:ay)(B:Nat):fJ w B (ς) []:=YG _ _ _ _
def fJ.aD(h:fJ p a d c)(B:μ p m):fJ m a d c:=h.kept (row:=none) ⟨B.os,B.tape,B.output,B.size,λk w _=>B.block k w⟩ (by cases d.ownBlock<;>simp)
def fJ.shape(h:fJ p j d c):∃a cap,d=.slice a c.length cap:=by
 obtain⟨b,w⟩|⟨i,cap,e,b,w,f,B,k,g,l⟩:=h.2
 ·exact⟨none,0,by rw[b,w]⟩
 exact⟨_,cap,b⟩
def cQ{B:f'}(h:p.ownsRow a j l d o B){N:Nat}(b:N<a):some N≠d.ownBlock:=λj=>by have:=(h.lt N j.symm).1;omega


