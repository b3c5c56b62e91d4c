/- . -/
import Derived.Test.YtjelacjggijmfaaGreatDoorYWR2
set_option maxHeartbeats 4000000
set_option maxRecDepth 100000
namespace Go.Proofs.YtjelacjggijmfaaGreatDoor
open Pl Mk Cp Proofs.Tryz
open RowKit MapKept ChangeMaps Maps
def gP (op a:Nat):Nat:=if a=0 then oQ op else oR op
def l_ (c:Wr)(op:Nat)(b:List Nat):Nat->Wr
 |0=>c.op op
 |a+1=>(l_ c op b a).put (b.getD a 0) (gP op a)
theorem uE (op a:Nat):gP op a<=2:=by
 unfold gP oQ oR
 repeat' split
 all_goals omega
theorem iU (n k:Nat)(h:k<=2):(dc n k).length=k:=by
 match k,h with
 |0,_=>rfl|1,_=>rfl|2,_=>rfl
theorem yZ (b:Wr)(op:Nat)(c:List Nat):∀a,(l_ b op c a).bh.length<=b.bh.length+1+2*a
 |0=>by show(b.bh++[UInt8.ofNat op]).length<=_;simp
 |a+1=>by have:=yZ b op c a;show((l_ b op c a).bh++dc _ _).length<=_;rw[TE,iU _ _ (uE op a)];have:=uE op a;omega
theorem sD (b:ag):∀u∈Lib.byteCells b,u.oneCell' =true:=λu a=>by unfold Lib.byteCells at a;obtain⟨x,_,rfl⟩:=Uc.1 a;rfl
theorem RO (n:Int):∀u∈[Value.int .u8 n],u.oneCell' =true:=λu a=>by simp only[TL] at a;subst a;rfl
variable {a:TypeId}{c d:List ay}
theorem DV {W:ax}{b:Nat}{u:TypeId}{B s n:Nat}{v:ay}(h:aG W b a c)(i:W.ownsRow B u s v n d)(g:a≠u):some b≠v.ownBlock:=λe=>by obtain⟨k,j,f⟩:=eN i b e.symm;unfold aG at h;rw[h] at f;cases f;exact g rfl
theorem aG.jG {W Z:ax}{B g i b:Nat}{o:Wr}{j f k l :ay}(h:aG W b a c)(d:dK W B g i o j f)(q:eY g i j f k l W Z)(p:a≠281)(n:a≠9)(m:a≠5):aG Z b a c:=
 h.tn q.tn (λe=>by
  rcases e with e|e|e|e
  ·subst e;have:=d.row;unfold aG at h this;rw[h] at this;cases this;exact p rfl
  ·exact mA h d.nK e
  ·exact DV h d.aY n e
  ·exact DV h d.bh m e)
theorem dK.aE {W Z:ax}{B wb nb:Nat}{p:Wr}{vs vc:ay}(h:dK W B wb nb p vs vc)(a:Below W.heap.size W Z):dK Z B wb nb p vs vc:=⟨h.row.aE a,h.nK.aE a,bT h.aY (λk b=>a.block k (h.aY.lt k b).2),bT h.bh (λk b=>a.block k (h.bh.lt k b).2),h.wB,h.nB⟩
theorem eY.aE {W Z:ax}{wb nb:Nat}{vs vc:ay}(a:Below W.heap.size W Z):eY wb nb vs vc vs vc W Z:=⟨Tn.aE a,λ_ e=> .inl e,λ_ e=> .inl e⟩
structure Iy (W:ax)(B wb nb:Nat)(p:Wr)(vs vc:ay)(op:Nat)(os:List Nat)(N i:Nat)(wr:ax):Prop where
 wm:∃vc',dK wr B wb nb (l_ p op os i) vs vc' /\eY wb nb vs vc vs vc' W wr
 row:aG wr N 3 [.int .i64 (oQ op),.int .i64 (oR op)]
theorem ES (B f r:Nat)(d:Wr)(m vc:ay)(op:Nat)(c:List Nat)(a:Option Addr)(cap K:Nat)(W:ax)(h:dK W B f r d m vc)(hB:B<=W.heap.size)(ar:op<256)(ai:∀x∈c,x<2147483648)(aF:c.length<=2)(ha:0<c.length->a=some ⟨K,0,none⟩/\aG W K 3 (c.map λx:Nat=>Value.int .i64 (x:Int)))(aI:d.bh.length<=1073741824):
 Calls prog 100 #[.pointer (some ⟨f,0,none⟩),.int .u8 op,.slice a c.length cap] W λe W'=>e= .returned (.tuple #[])/\∃am,dK W' B f r (l_ d op c 2) m am /\eY f r m vc m am W W' :=by
 obtain⟨S,Q,aa,Y,ad⟩:=UF Tryz.uR;obtain⟨sa,sc,U⟩:=gL h.bh;subst U;have c2:=h.row.cell? (i:=2) rfl;have M:=h.wB;have an:(((UInt8.ofNat op).toNat:Nat):Int)=op:=by rw[Xw];omega
 have CW:=aB (LA op ar W);have z:=aB h;have HA:=aB ha;have ap:=aB ai;clear h ha ai;go_enter func100,ntmps100;go_wp2_with (first|(go_at_call 149;refine CW.u.mono ?_;rintro e w1 ⟨rfl,rfl⟩)|(at_builtin;refine Uu _ rfl (.tmp 22) (.tmp 24) 126 rfl B 5 S (.int .u8 0) 1 1 Ui Q aa Y ad rfl (by decide) _ d.bh.length _ rfl (T_ z.u.bh _) ⟨_,0,none⟩ 1 1 [.int .u8 (op:Int)] rfl rfl (gw _ _ [_]) (RO _) (by unfold maxLen;omega) (by omega) (by rw[TM];omega) ?_;intro v1 l ag O aw aj;obtain⟨D,J,rfl,-,-⟩:=d_ ag (by omega);have af:=z.u.row.grown ((UK W _ _).trans O) (dD z.u.bh M);have ao :=af.cell? (i:=2) rfl;have aq :=af.frozen 2;have V:=aB (z.u.zY (bs:=[UInt8.ofNat op]) (Tn.refl _ _) z.u.row ((UK W _ _).trans O) (by unfold Lib.byteCells;simp only[Ug,VL,T6];rw[an];exact ag) (λk A=>by rcases aj with e|e;exact .inl (e▸A);(rw [e] at A;cases A;exact .inr (by rw[TM];omega))));clear ag O aw aj af)|fail)
 have al:(l.setCell ⟨f,2,none⟩ (.slice (some ⟨D,0,none⟩) (d.bh.length+1) J)).heap.size=l.heap.size:=by simp
 have ah:Hid (Iy W B f r d m (.slice sa d.bh.length sc) op c l.heap.size 0 ((l.setCell ⟨f,2,none⟩ (.slice (some ⟨D,0,none⟩) (d.bh.length+1) J)).alloc (.cells #[.int .i64 (oQ op),.int .i64 (oR op)] 3))):=by have hb:=(TF _ (l.setCell ⟨f,2,none⟩ (.slice (some ⟨D,0,none⟩) (d.bh.length+1) J))).alloc ak (.cells #[.int .i64 (oQ op),.int .i64 (oR op)] 3);have hr:=aG.bA (l.setCell ⟨f,2,none⟩ (.slice (some ⟨D,0,none⟩) (d.bh.length+1) J)) 3 [.int .i64 (oQ op),.int .i64 (oR op)];rw[al] at hr;exact⟨⟨_,V.u.1.aE hb,V.u.2.trans (eY.aE hb)⟩,hr⟩
 clear V ao aq c2 al;generalize ((l.setCell ⟨f,2,none⟩ (.slice (some ⟨D,0,none⟩) (d.bh.length+1) J)).alloc (.cells #[.int .i64 (oQ op),.int .i64 (oR op)] 3))=W0 at*;generalize l.heap.size=N at*;go_loopw [32] (λiv wr=>∃b:Nat,iv= .int .i64 b/\b<=2/\Hid (Iy W B f r d m (.slice sa d.bh.length sc) op c N b wr)) (λiv _=>2-aS iv)
 case atStart=>exact⟨0,rfl,by omega,ah⟩
 case round=>
  clear ah;obtain⟨b,rfl,aD,E⟩:=hrel;obtain⟨aJ,y,C⟩:=E.u.wm;by_cases hi:b<2
  ·have t1:(b:Int)<2:=by omega
   have t0:(0:Int)<=(b:Int):=by omega
   obtain⟨ca,cc,U⟩:=gL y.bh;subst U;have aH:=yZ d op c b;have G:=uE op b;have cw:wr.cell? ⟨N,b,none⟩=some (.int .i64 (gP op b)):=by
    match b,hi with
    |0,_=>exact E.u.row.cell? (i:=0) rfl
    |1,_=>exact E.u.row.cell? (i:=1) rfl
   have az:c.getD b 0<2147483648:=by
    rw[TO];by_cases o:b<c.length
    ·rw[TH o];exact ap.u _ (TV o)
    ·rw[WA (by omega)];decide
   have ab:b<c.length->a=some ⟨K,0,none⟩/\wr.cell? ⟨K,b,none⟩=some (.int .i64 ((c.getD b 0:Nat):Int)):=λo=>by obtain⟨e1,e2⟩:=HA.u (by omega);refine⟨e1,(e2.jG z.u C (by decide) (by decide) (by decide)).cell? ?_⟩;rw[UG,TH o,TO,TH o];rfl
   have c2:=y.row.cell? (i:=2) rfl;have aK:B<=wr.heap.size:=TT hB C.tn.size;have CB:=aB (vX f (c.getD b 0) (gP op b) G _ _ _ _ wr.drew y.row az);have g:=aB y;have L:=aB C;clear y C;generalize hn:c.getD b 0=n at*;generalize A:gP op b=k at*;by_cases o:b<c.length
   ·obtain⟨rfl,co⟩:=ab o;have t2:(b:Int)<(c.length:Int):=by omega
    clear ab;go_wp2_with fail
    go_region_law (first|(go_simp;go_at_call 148;refine CB.u.mono ?_;rintro e w3 ⟨P,rfl,I,s,ac,j⟩;have d2:=s.cell? (i:=2) rfl;have T:=aB (bT g.u.bh (λq i=>j.block q (g.u.bh.lt q i).2 (by have:=(g.u.bh.lt q i).1;omega)));have Z:=aB I;have F:=aB s;have ae:=aB ((Tn.aE (p:=λq=>q=f) (TF _ wr).drew).trans j);have aA:=j.size;clear I s j ac)|(refine pS rfl (.tmp 49) (.tmp 53) 126 rfl B 5 S _ 1 1 Ui Q aa Y ad rfl (by decide) _ (l_ d op c b).bh.length _ (by rfl) T.u ⟨P,0,none⟩ k k (Lib.byteCells (dc n k)) (by rfl) (by rw[Va,iU _ _ G];omega) (λaC u R=>by rw[ji];exact Z.u.cell? R) (sD _) (by unfold maxLen;omega) (by omega) (by have X:wr.drew.heap.size=wr.heap.size:=rfl;omega) ?_;intro v4 w4 t w H;obtain⟨q3,q4,rfl⟩:=gL t;have v:=F.u.grown w (dD g.u.bh M);have e1:=v.cell? (i:=2) rfl;have e2:=v.frozen 2;have p:=aB (g.u.zY (bs:=dc n k) ae.u F.u w (by rw[iU _ _ G];exact t) (λq i=>by rcases H with e|e;exact .inl (e▸i);(rw [e] at i;cases i;exact .inr (by have X:wr.drew.heap.size=wr.heap.size:=rfl;omega))));clear t w H v))
    all_goals go_wp2_with fail
    all_goals go_roundw
    all_goals first
     |(refine ⟨b+1,by go_num,by omega,⟨⟨_,?_,L.u.trans p.u.2⟩,E.u.row.jG g.u p.u.2 (by decide) (by decide) (by decide)⟩⟩
       show dK _ B f r ((l_ d op c b).put (c.getD b 0) (gP op b)) m _;rw[hn,A];exact p.u.1)
     |(simp only[aS];omega)
   ·have av:n=0:=by rw[<-hn,TO,WA (by omega)];rfl
    have t2:¬(b:Int)<(c.length:Int):=by omega
    subst av;clear ab;go_wp2_with fail
    go_region_law (first|(go_simp;go_at_call 148;refine CB.u.mono ?_;rintro e w3 ⟨P,rfl,I,s,ac,j⟩;have d2:=s.cell? (i:=2) rfl;have T:=aB (bT g.u.bh (λq i=>j.block q (g.u.bh.lt q i).2 (by have:=(g.u.bh.lt q i).1;omega)));have Z:=aB I;have F:=aB s;have ae:=aB ((Tn.aE (p:=λq=>q=f) (TF _ wr).drew).trans j);have aA:=j.size;clear I s j ac)|(refine pS rfl (.tmp 49) (.tmp 53) 126 rfl B 5 S _ 1 1 Ui Q aa Y ad rfl (by decide) _ (l_ d op c b).bh.length _ (by rfl) T.u ⟨P,0,none⟩ k k (Lib.byteCells (dc 0 k)) (by rfl) (by rw[Va,iU _ _ G];omega) (λaC u R=>by rw[ji];exact Z.u.cell? R) (sD _) (by unfold maxLen;omega) (by omega) (by have X:wr.drew.heap.size=wr.heap.size:=rfl;omega) ?_;intro v4 w4 t w H;obtain⟨q3,q4,rfl⟩:=gL t;have v:=F.u.grown w (dD g.u.bh M);have e1:=v.cell? (i:=2) rfl;have e2:=v.frozen 2;have p:=aB (g.u.zY (bs:=dc 0 k) ae.u F.u w (by rw[iU _ _ G];exact t) (λq i=>by rcases H with e|e;exact .inl (e▸i);(rw [e] at i;cases i;exact .inr (by have X:wr.drew.heap.size=wr.heap.size:=rfl;omega))));clear t w H v))
    all_goals go_wp2_with fail
    all_goals go_roundw
    all_goals first
     |(refine ⟨b+1,by go_num,by omega,⟨⟨_,?_,L.u.trans p.u.2⟩,E.u.row.jG g.u p.u.2 (by decide) (by decide) (by decide)⟩⟩
       show dK _ B f r ((l_ d op c b).put (c.getD b 0) (gP op b)) m _;rw[hn,A];exact p.u.1)
     |(simp only[aS];omega)
  ·have au:b=2:=by omega
   subst au;have t1:¬((2:Nat):Int)<2:=by omega
   have g:=aB y;have L:=aB C;clear y C;go_wp2_with fail
   go_end0
   exact⟨rfl,_,g.u,L.u⟩
