/- . -/
import Derived.Test.YtjelacjggijmfaaGreatDoorYRPure
set_option maxHeartbeats 4000000
set_option maxRecDepth 20000
namespace Go.Proofs.YtjelacjggijmfaaGreatDoor
open Pl Mk Cp Proofs.Tryz
open RowKit
theorem uG (s:az):∀u∈[Value.string s],u.oneCell' =true:=by intro u a;simp at a;subst a;rfl
theorem M8 (c:Int)(d:List aI)(a:List aI)(k:Nat)(h:k<a.length):(a.take (k+1)).foldl (λb f=>gm b (ks c f)) d=gm ((a.take k).foldl (λb f=>gm b (ks c f)) d) (ks c a[k]):=by rw[TW h,VX];rfl
theorem Fit.xO {S:List ag}(d:Int):∀(b:List aI) {a:List aI},Fit S a->(∀f∈b,f.aJ∈S)->Fit S (b.foldl (λg f=>gm g (ks d f)) a)
 |[],_,h,_=>h
 |f::i,a,h,c=>by rw[Ux];exact Fit.xO d i (h.put (c f (by simp))) (λj e=>c j (by simp[e]))
variable {a:List bL}
theorem NH {X:Wd}{c:ag}(h:∀b (d:b<a.length),a[b].ej≠c):ia a X c=⟨X.aX,wrap64 (X.aP+1),X.aH++[c],X.exit⟩:=by
 have:a.find? (λe=>e.ej==c)=none:=by rw[Vm];intro x f;obtain⟨b,d,rfl⟩:=U8 f;simpa using h b d
 unfold ia;rw[this]
theorem MA {X:Wd}{c:ag}{k:Nat}(g:k<a.length)(h:∀b (d:b<a.length),b<k->a[b].ej≠c)(i:a[k].ej=c):
 ia a X c=⟨a[k].eO.foldl (λj f=>gm j (ks (wrap64 (X.aP+1)) f)) X.aX,wrap64 (X.aP+1),X.aH++[c],a[k].exit⟩:=by
 have:a.find? (λe=>e.ej==c)=some a[k]:=by rw[WC];exact⟨by simpa using i,k,g,rfl,λb d=>by simpa using h b (by omega) d⟩
 unfold ia;rw[this]
theorem B8 (c:ag)(S:List ag)(b:List bL)(L B l K O ce:Nat)(ae:Option Addr)(T vc:ay)(X:Wd)(w:ax)(h:RW w B l (.slice ae b.length ce) T vc X)(ba:0<b.length->ae=some ⟨K,O,none⟩)(hE:nP w L K O b)(hL:L<=l)(ah:Fit S X.aX)(hS:S.length<=8388608)(a3:∀e∈b,∀f∈e.eO,f.aJ∈S)(br:B<=w.heap.size)(bU:b.length<=8388608)(bS:X.aH.length<=8388608)(bg:∀e∈b,e.eO.length<=8388608):
 Calls prog 49 #[.pointer (some ⟨l,0,none⟩),aK c] w λe w'=>(∃v,e= .returned v)/\∃bp A,RW w' B l (.slice ae b.length ce) bp A (ia b X c)/\Below l w w' /\jn w w' :=by
 obtain⟨i0,hi,a8,bb,bh⟩:=UF Tryz.kJ;obtain⟨j0,r,a5,a4,a'⟩:=UF Tryz.y7;have bB:=aB r;have bF:=aB a5;have bE:=aB a4;have bo:=aB a';have ai:gZ w B l (.slice ae b.length ce) T vc X w:=⟨h,TF _ _,jn.refl _⟩;obtain⟨ac,cc,rfl⟩:=h.aH.shape;obtain⟨o,z,H,J,t⟩:=h.cells;have f1:=h.row.frozen 1;have f3:=h.row.frozen 3;have bO:=h.row.lt;have aZ:=h.lt;have ar:=h.aH;have aD:=aB ai;have HE:=aB hE;have HF:=aB ah;have bv:=aB a3;have bt:=aB bg;have bi:=aB ba;clear r a5 a4 a' h ai hE ah a3 ba bg;unfold aK;go_enter func49,ntmps49;go_wp2_with (first|(at_builtin;refine Uo _ rfl (.tmp 12) (.tmp 14) 30 rfl B 9 i0 (.string ⟨#[]⟩) 1 16 UC hi a8 bb bh rfl (by decide) _ _ _ rfl (T_ ar _) ⟨w.heap.size,0,none⟩ 1 1 [.string ⟨c.toArray⟩] rfl rfl (gw w _ [.string ⟨c.toArray⟩]) (uG _) (by unfold maxLen;omega) (by omega) (by rw[TM];omega) ?_;intro v1 w1 G af bl;obtain⟨g1,ap,rfl,a0,bf⟩:=d_ G (by omega);have V:=aB ((UK w _ _).trans af);have E:=aD.u.rw.row.grown V.u (dD ar aZ);obtain⟨d0,d1,d2,d3,d4⟩:=E.Gp;have m1:=E.frozen 1;have m3:=E.frozen 3;have an:=aB G;clear G af E)|go_in)
 have az:=aB ((aD.u.SE (c:=c) (show w.grownBy w1 (Value.slice ac X.aH.length cc).ownBlock from V.u) an.u).aP (wrap64 (X.aP+1)));simp only at az;generalize ((w1.setCell ⟨l,3,none⟩ (.slice (some ⟨g1,0,none⟩) (X.aH.length+1) ap)).setCell ⟨l,1,none⟩ (.int .i64 (wrap64 (X.aP+1))))=W1 at*;generalize bm:Value.slice (some ⟨g1,0,none⟩) (X.aH.length+1) ap=A at*;generalize a_:wrap64 (X.aP+1)=clk at*;have a2:=aB a_;clear V an d0 d1 d2 d3 d4 m1 m3 o z H J t f1 f3 bl a0 bf aD ar hi a8 bb bh a_ bm;have bj:Hid (∀Y,Below l w Y->B<=Y.heap.size):=λY hb=>TT br hb.size;go_loopw [4] (λaq wr=>∃k:Nat,aq= .int .i64 k/\k<=b.length/\Hid (∀a (r:a<b.length),a<k->b[a].ej≠c)/\Hid (gZ w B l (.slice ae b.length ce) T A ⟨X.aX,clk,X.aH++[c],X.exit⟩ wr)) (λaq _=>b.length-aS aq)
 case atStart=>exact⟨0,rfl,TS _,λa _ h=>by omega,az⟩
 case round=>
  clear az;obtain⟨k,rfl,bV,R,p⟩:=hrel;obtain⟨o,z,H,J,t⟩:=p.u.rw.cells;simp only at z t;by_cases hk:k<b.length
  ·obtain rfl:=bi.u (by omega);have aM:=HE.u.aL (p.u.aL.mono hL);obtain⟨C,e2,aw,cw,bw,ow,F,I,D,aI⟩:=aM.2 k hk;have ao:b[k]∈b:=TV hk;have bk:=aB (bv.u b[k] ao);have bR:=bt.u b[k] ao;have aC:=aB (λq=>MA (X:=X) (c:=c) hk R.u q);generalize ak:b[k]=ek at*;unfold aK at C;have t1:(k:Int)<(b.length:Int):=by omega
   by_cases q:ek.ej=c
   ·have tc:(ek.ej==c)=true:=by simpa using q
    have bD :(ek.ej !=c)=false:=by rw[Uv];exact q
    have aY:=aB (aC.u q);rw[a2.u] at aY;have bI:=aB D;have bC:=aB I;have f4:=p.u.rw.row.frozen 4;have bd:=aB ak;have ai:=p;clear q R aM ao ak D I aC C F e2 o z H J t f4 bI bC aI;have a7:Hid (gZ w B l (.slice (some ⟨K,O,none⟩) b.length ce) T A ⟨(ek.eO.take 0).foldl (λd f=>gm d (ks clk f)) X.aX,clk,X.aH++[c],X.exit⟩ wr):=p.u;obtain⟨o,z,H,J,t⟩:=p.u.rw.cells;obtain⟨C,-,aw,cw,bw,ow,F,-,-,-⟩:=(HE.u.aL (p.u.aL.mono hL)).2 k hk;rw[bd.u] at C F;unfold aK at C;clear p ai;go_wp2_with fail
    clear o z H J t C F;go_loopw [5] (λs bJ=>∃(m:Nat) (aU:ay),s= .int .i64 m/\m<=ek.eO.length/\Hid (gZ w B l (.slice (some ⟨K,O,none⟩) b.length ce) aU A ⟨(ek.eO.take m).foldl (λd f=>gm d (ks clk f)) X.aX,clk,X.aH++[c],X.exit⟩ bJ)) (λs _=>ek.eO.length-aS s)
    case atStart=>exact⟨0,T,rfl,TS _,a7⟩
    case round=>
     clear a7;obtain⟨m,aU,rfl,bP,x⟩:=hrel;obtain⟨o,z,H,J,t⟩:=x.u.rw.cells;simp only at z t;obtain⟨-,e2,aw,cw,bw,ow,F,I,D,aI⟩:=(HE.u.aL (x.u.aL.mono hL)).2 k hk;rw[bd.u] at F e2 I D;by_cases a6:m<ek.eO.length
     ·obtain rfl:=I (by omega);obtain⟨p0,p1,-⟩:=D m a6;have am:=aB (M8 clk X.aX ek.eO m a6);have ah:Fit S ((ek.eO.take m).foldl (λd f=>gm d (ks clk f)) X.aX):=HF.u.xO clk _ (λf hf=>bk.u f (aa1 hf));have bX:=ah.len;have bH:=Ry (fs:=(ek.eO.take m).foldl (λd f=>gm d (ks clk f)) X.aX) (f:=ks clk ek.eO[m]);generalize ek.eO[m]=j at*;generalize (ek.eO.take m).foldl (λd f=>gm d (ks clk f)) X.aX=d at*;have bn:=x.u.rw.row.lt;have t2:(m:Int)<(ek.eO.length:Int):=by omega
      have bu:=HE.u.1;have bs :K<wr.heap.size:=by omega
      have bq :bw<wr.heap.size:=by omega
      unfold aK at p0 p1;clear D ah;go_wp2_with fail
      go_region
      have aW:=(aj wr (.cells #[.string ⟨j.aJ.toArray⟩,.string ⟨j.aT.toArray⟩,.int .i64 clk] 89)).drew;have N:=x.u.aE aW;have U:aG (wr.alloc (.cells #[.string ⟨j.aJ.toArray⟩,.string ⟨j.aT.toArray⟩,.int .i64 clk] 89)).drew wr.heap.size 89 [.string ⟨j.aJ.toArray⟩,.string ⟨j.aT.toArray⟩,.int .i64 clk]:=aG.bA wr 89 [.string ⟨j.aJ.toArray⟩,.string ⟨j.aT.toArray⟩,.int .i64 clk];have bK:some wr.heap.size≠aU.ownBlock:=λe=>by have:=(x.u.rw.aX.lt _ e.symm).2;omega
      have bG:=aB (bj.u _ N.aL);generalize (wr.alloc (.cells #[.string ⟨j.aJ.toArray⟩,.string ⟨j.aT.toArray⟩,.int .i64 clk] 89)).drew=i at*;generalize wr.heap.size=y at*;clear x aW o z H J t F e2 p0 p1 bn bu bs bq aI t2;obtain⟨av,cv,gv,rfl,au,aR,a1⟩:=N.rw.aX.rd;have M:=aB (λn=>n_ d j.aJ av cv gv 0 (i.drewN n) au aR (by omega));unfold aK at M;have a9:∀n,gZ w B l (.slice (some ⟨K,O,none⟩) b.length ce) (.slice av d.length cv) A ⟨d,clk,X.aH++[c],X.exit⟩ (i.drewN n):=λn=>N.aE (Below.drewN (TF _ _) n);have al:=aB a9;have aA:=aB U;have o:=N.rw.row.cell 0 (by simp);have b0:=U.cell 0 (by simp);have b1:=U.cell 1 (by simp);have W:=U.cell 2 (by simp);simp only[TG,TI] at o b0 b1 W;have f0:=N.rw.row.frozen 0;have aN:=aB aR;have P:=aB a1;have aQ:=aB au;have aF:=N.rw.row.lt;have aO:=U.lt;clear N a9 U aR a1 au;rcases bH with⟨Z,s⟩|⟨a,r,Z,s⟩
      ·have aa :iG d j.aJ= -1:=Z;rw[aa] at M;have aV:=aB (am.u.trans s);clear Z s aa am;as_aux_lemma=>
        go_wp2_with fail
        go_quiet (first|(go_at_call 45;exact V_ ((M.u _).mono (λ_ _ h=>⟨h.1,h.2.symm⟩))))
        go_wp2_with fail
        have d0:(i.drewN nq).cell? ⟨l,0,none⟩=_:=o;have q0:(i.drewN nq).cell? ⟨y,0,none⟩=_:=b0;have q1:(i.drewN nq).cell? ⟨y,1,none⟩=_:=b1;have q2:(i.drewN nq).cell? ⟨y,2,none⟩=_:=W;have g0:(i.drewN nq).frozen? ⟨l,0,none⟩=_:=f0;have Q:=aB (al.u nq);have bQ:Hid (aG (i.drewN nq) y 89 [.string ⟨j.aJ.toArray⟩,.string ⟨j.aT.toArray⟩,.int .i64 clk]):=aA.u;have bY:B<=(i.drewN nq).heap.size:=bG.u;have bM:l<(i.drewN nq).heap.size:=aF;have bW:y<(i.drewN nq).heap.size:=aO;clear o b0 b1 W f0 al M aA aN P aQ aF aO;generalize i.drewN nq=W5 at*;as_aux_lemma=>
         go_region_law (refine yc rfl (.tmp 99) (.tmp 101) 22 rfl B 89 j0 _ 3 40 WO bB.u bF.u bE.u bo.u rfl (by decide) _ d.length _ (by simp[Act.eval]) (Q.u.rw.aX.alloc _) ⟨_,0,none⟩ 1 1 (fV (ks clk j)) (by simp[Act.eval]) rfl (gw _ _ (fV (ks clk j))) (by intro u hu;simp[fV] at hu;rcases hu with rfl|rfl|rfl<;>rfl) (by unfold maxLen;omega) (by omega) (by simp;omega) ?_;intro v1 w1 G af;obtain⟨g1,ap,rfl,a0,bf⟩:=d_ G (by omega);have V:=aB (oU af);have E:=Q.u.rw.row.grown V.u (dD Q.u.rw.aX aZ);have C:=E.cell 0 (by simp);have h0:=E.frozen 0;simp only[TG] at C;have an:=aB G;clear G af E)
         all_goals go_wp2_with fail
         all_goals go_roundw
         all_goals first
          |exact⟨m+1,_,by go_num,by omega,by rw[aV.u];exact Q.u.RZ V.u an.u⟩
          |(simp only[aS];omega)
      ·have aa :iG d j.aJ=a:=Z;rw[aa] at M;have aV:=aB (am.u.trans s);have bT:¬(a:Int)<0:=by omega
       have ab:0<d.length:=Nat.lt_of_le_of_lt (TS _) r;obtain rfl:=aQ.u ab;obtain⟨y0,y1,y2⟩:=aN.u a r;simp only[Ur] at y0 y1 y2;have z0:=(P.u ab).2.2 (a*3);have z1:=(P.u ab).2.2 (a*3+1);have z2:=(P.u ab).2.2 (a*3+2);have tj:(a:Int)<(d.length:Int):=by omega
       have bZ:y≠gv:=λe=>bK (by rw[e];rfl);have bN:l≠gv:=by have:=(P.u ab).1;omega
       clear Z s aa am;as_aux_lemma=>
        go_wp2_with fail
        go_quiet (first|(go_at_call 45;exact V_ ((M.u _).mono (λ_ _ h=>⟨h.1,h.2.symm⟩))))
        go_wp2_with fail
        have d0:(i.drewN nq).cell? ⟨l,0,none⟩=_:=o;have q0:(i.drewN nq).cell? ⟨y,0,none⟩=_:=b0;have q1:(i.drewN nq).cell? ⟨y,1,none⟩=_:=b1;have q2:(i.drewN nq).cell? ⟨y,2,none⟩=_:=W;have x0:(i.drewN nq).cell? ⟨gv,a*3,none⟩=_:=y0;have x1:(i.drewN nq).cell? ⟨gv,a*3+1,none⟩=_:=y1;have x2:(i.drewN nq).cell? ⟨gv,a*3+2,none⟩=_:=y2;have k0:(i.drewN nq).frozen? ⟨gv,a*3,none⟩=_:=z0;have k1:(i.drewN nq).frozen? ⟨gv,a*3+1,none⟩=_:=z1;have k3:(i.drewN nq).frozen? ⟨gv,a*3+2,none⟩=_:=z2;have Q:=aB (al.u nq);clear o b0 b1 W f0 al M aA aN P aQ aF aO y0 y1 y2 z0 z1 z2;generalize i.drewN nq=W5 at*;have HS:Hid (gZ w B l (.slice (some ⟨K,O,none⟩) b.length ce) (.slice (some ⟨gv,0,none⟩) d.length cv) A ⟨d.set a (ks clk j),clk,X.aH++[c],X.exit⟩ (((W5.setCell ⟨gv,a*3,none⟩ (.string ⟨j.aJ.toArray⟩)).setCell ⟨gv,a*3+1,none⟩ (.string ⟨j.aT.toArray⟩)).setCell ⟨gv,a*3+2,none⟩ (.int .i64 clk)).drew):=by have bz:=gZ.oD (X:=⟨d,clk,X.aH++[c],X.exit⟩) (g:=gv) (cap:=cv) (Y:=W5) Q.u a r (ks clk j);exact bz.aE (Below.drew (TF _ _))
        as_aux_lemma=>
         go_region
         all_goals go_wp2_with fail
         all_goals go_roundw
         all_goals first
          |(refine ⟨m+1,.slice (some ⟨gv,0,none⟩) d.length cv,by go_num,by omega,?_⟩;rw[aV.u];exact HS)|(simp only[aS];omega)
     ·have bc:ek.eO.take m=ek.eO:=Uh (by omega);rw[bc] at x;have f4:=x.u.rw.row.frozen 4;have ad:=aB (x.u.exit ek.exit);simp only at ad;rw[<-aY.u] at ad;clear bc D I;go_wp2_with fail
      refine Ua (U' rfl _ _ _) rfl ?_;exact⟨⟨_,rfl⟩,_,_,ad.u.rw,ad.u.aL,ad.u.kept⟩
   ·have tc:(ek.ej==c)=false:=by simpa using q
    have bD :(ek.ej !=c)=true:=by rw[UY];exact q
    have HN:Hid (∀a (h:a<b.length),a<k+1->b[a].ej≠c):=by
     intro a h r;by_cases e:a=k
     ·subst e;rw[ak];exact q
     ·exact R.u a h (by omega)
    clear q R aM ao ak D I aC;go_wp2_with fail
    go_roundw
    case rel=>exact⟨k+1,by go_num,by omega,HN,p⟩
    case measure=>simp only[aS];omega
  ·have HV:=aB (NH (X:=X) (c:=c) (λa r=>R.u a r (by omega)));rw[a2.u] at HV;clear R;go_wp2_with fail
   go_end0
   exact⟨⟨_,rfl⟩,T,A,by rw[HV.u];exact p.u.rw,p.u.aL,p.u.kept⟩
