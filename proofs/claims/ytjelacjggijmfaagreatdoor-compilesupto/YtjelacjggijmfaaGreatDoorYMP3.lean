/- . -/
import Derived.Test.YtjelacjggijmfaaGreatDoorYMP2
import Derived.Test.YtjelacjggijmfaaGreatDoorYEX2
set_option maxHeartbeats 8000000
set_option maxRecDepth 100000
namespace Go.Proofs.YtjelacjggijmfaaGreatDoor
open Pl Mk Cp Proofs.Tryz
open RowKit MapKept ChangeMaps Maps
section
attribute [local go_sem↓] Xg Xh
section
variable {w Z:ax} {B bm bx bf bi:Nat} {ap:Option Addr} {cp:Nat} {ss:List ag} {ve:ay} {ef:List bL} {vs vg vs' vg' :ay} {st:List Bool} {fl:Nat->Bool} {go:Nat} {X:Wd}
end
end
section
attribute [local go_sem↓] Xg Xh
end
end Go.Proofs.YtjelacjggijmfaaGreatDoor
namespace Go.Pl
open Pl Mk Cp Proofs.Tryz
open RowKit
end Go.Pl
namespace Go.Proofs.YtjelacjggijmfaaGreatDoor
open Pl Mk Cp Proofs.Tryz
open RowKit MapKept ChangeMaps Maps
section
variable {c:ag} {ss:List ag} {ef:List bL} {S:List ag} {R:Wd} {bk:List (pH×Bool)} {x:pH×Bool} {p:Nat} {st:List Bool} {fl:Nat->Bool} {go:Nat} {X:Wd}
end
open Shelf
section
attribute [local go_sem] W9
section
variable {X Y:ax} {B bm bx bf bi:Nat} {ap:Option Addr} {cp:Nat} {ss:List ag} {ve:ay} {ef:List bL} {vs vg vs' vg' :ay} {st:List Bool} {fl:Nat->Bool} {go:Nat} {D:Wd}
end
section
variable {n:Nat} {w X Y:ax} {bm bx bf bi:Nat} {ap:Option Addr} {cp:Nat} {ss:List ag} {ve:ay} {ef:List bL} {vs vg vs' vg' :ay} {st:List Bool} {fl:Nat->Bool} {go:Nat} {D:Wd}
end
end
open Go.Sort
section
attribute [local go_sem↓] Xg Xh
theorem FV (S:List ag)(c:ag)(ss:List ag)(ef:List bL)(a:∀e∈ef,∀f∈e.eO,f.aJ∈S):∀(f p:Nat) (st:List Bool) (fl:Nat->Bool) (X:Wd),Fit S X.aX->Fit S (oI c ss ef f p st fl X).aX
 |0,_,_,_,_,h=>h
 |f+1,p,st,fl,X,h=>by
  rw[oI];split
  ·refine FV S c ss ef a f _ _ _ _ ?_;have:(dG ss ef (a_ c p) st fl X).2.2.2=X\/∃d,(dG ss ef (a_ c p) st fl X).2.2.2=ia ef X d:=by
    unfold dG
    repeat' split
    all_goals first|exact .inl rfl|exact .inr ⟨_,rfl⟩
   rcases this with e|⟨d,e⟩
   ·rw[e];exact h
   ·rw[e];unfold ia;split
    ·exact h
    ·rename_i b i;exact Fit.xO _ _ h (a b (Uw i))
  ·exact h
end
theorem EC (c:ag)(ss:List ag)(ef:List bL):∀(f p:Nat) (st:List Bool) (fl:Nat->Bool) (X:Wd),(oI c ss ef f p st fl X).aH.length<=X.aH.length+f
 |0,_,_,_,X=>TD _
 |f+1,p,st,fl,X=>by
  rw[oI];split
  ·have a:=EC c ss ef f (dG ss ef (a_ c p) st fl X).1 (dG ss ef (a_ c p) st fl X).2.1 (dG ss ef (a_ c p) st fl X).2.2.1 (dG ss ef (a_ c p) st fl X).2.2.2;have b:(dG ss ef (a_ c p) st fl X).2.2.2=X\/∃d,(dG ss ef (a_ c p) st fl X).2.2.2=ia ef X d:=by
    unfold dG
    repeat' split
    all_goals first|exact .inl rfl|exact .inr ⟨_,rfl⟩
   rcases b with e|⟨d,e⟩
   ·rw[e] at a⊢;omega
   ·rw[e] at a⊢;rw[LV,TE,T6] at a;omega
  ·omega
variable {d:ag}
theorem K7 {ss:List ag}{c:ag}(h:Pl.load d=some (ss,c)):c.length+4<=d.length:=by
 unfold Pl.load at h;split at h
 ·rename_i a;have:=(wI _ _ _ h).2;simp only[UM] at this;omega
 ·cases h
theorem FW {ss:List ag}{c:ag}(h:Pl.load d=some (ss,c))(b:List aI)(ef:List bL)(a:Int):(jC c ss ef (gQ b a)).aH.length<=d.length:=by have i:=EC c ss ef (c.length+1) 0 [] (λ_=>false) (gQ b a);have e:=K7 h;have f:(gQ b a).aH.length=0:=rfl;unfold jC;omega
theorem EP (S:List ag)(c:ag)(ss:List ag)(a:List aI)(ef:List bL)(d:Int)(h:∀f∈a,f.aJ∈S)(b:∀e∈ef,∀f∈e.eO,f.aJ∈S):(eX (jC c ss ef (gQ a d)).aX).length<=S.length:=by rw[F3];refine Fit.len ?_;unfold jC;exact FV S c ss ef b _ _ _ _ _ (Fit.AP a ⟨by simp[oG],by simp⟩ h)
theorem PB {w:ax}{B e size n:Nat}{v:ay}{q:List ay}(h:w.ownsRow B e size v n q):∃a cap b,v= .slice a n cap/\(0<n->a=some ⟨b,0,none⟩)/\(0<n->b<w.heap.size)/\∀f u,q[f]?=some u->w.cell? ⟨b,f,none⟩=some u:=by
 rcases h.2 with⟨j,i⟩|⟨g,cap,r,j,i,s,z,A,y,t⟩
 ·refine⟨none,0,0,?_,λh=>by omega,λh=>by omega,λf u d=> ?_⟩
  ·rw[j,i]
  ·have:=h.1;subst i;simp only[YP,UH] at this;subst this;simp at d
 ·have l:aG w g e r.toList:=by unfold aG;simpa using s
  refine⟨some ⟨g,0,none⟩,cap,g,j,λ_=>rfl,λ_=>l.lt,λf u d=>l.cell? ?_⟩;rw[<-t,ZE] at d;split at d
  ·exact d
  ·cases d
theorem gj.rd {w:ax}{B:Nat}{v:ay}{ss:List ag}(h:gj w B v ss):∃a cap b,v= .slice a ss.length cap/\(0<ss.length->a=some ⟨b,0,none⟩)/\(0<ss.length->b<w.heap.size)/\na w b 0 ss:=by obtain⟨a,cap,b,l,d,e,i⟩:=PB h;exact⟨a,cap,b,l,d,e,λj f=>i (0+j) _ (by simp[f])⟩
def Ba (xb:Nat)(vn:ay)(L:List Rn)(g:Sg)(m:List ag)(f:Nat)(a:Er)(vb:ay)(W:ax)(e:Ending)(b :ax):Prop:=∃(u:ag) (vb' :ay) (d :Nat),e= .returned (.string ⟨u.toArray⟩)/\XM b xb vn L g d vb' m a.er/\(a.er=0->u=a.bE/\d =a.bq)/\XF W b xb vb vb' /\u.length<=f
def Ay (xb:Nat)(vn:ay)(L:List Rn)(g:Sg)(d k:Nat)(m:List ag):Prop:=∀(W:ax) (vb:ay) (a:ag) (b:Er),XM W xb vn L g k vb m 0->bM (nR L) (jf g) m k [] a b->d*(a.length+eT L m)<=140000000000000->a.length<=1073741824->
 Calls prog 116 #[.pointer (some ⟨xb,0,none⟩),.string ⟨a.toArray⟩] W λe f=>Ba xb vn L g m (d*(a.length+eT L m)) b vb W e f
theorem XM.cells {W:ax}{xb:Nat}{vn vb:ay}{L:List Rn}{g:Sg}{k:Nat}{m:List ag}{er:Nat}(h:XM W xb vn L g k vb m er):
 W.cell? ⟨xb,0,none⟩=some vn/\W.cell? ⟨xb,6,none⟩=some (.int .i64 (k:Int))/\W.cell? ⟨xb,7,none⟩=some vb/\W.cell? ⟨xb,8,none⟩=some (.int .i64 (er:Int))/\∀a,W.frozen? ⟨xb,a,none⟩=false:=
 ⟨h.row.cell 0 (by simp),h.row.cell 6 (by simp),h.row.cell 7 (by simp),h.row.cell 8 (by simp),h.row.frozen⟩
theorem Mf {xb:Nat}{vn:ay}{L:List Rn}{g:Sg}{C k:Nat}{m:List ag}(hT:300<k+1\/∀n,n∉m->Ay xb vn L g C (k+1) (m++[n]))(hC:C*eT L m<=140000000000000)(hk:k<=300)(hm:m.length<=300)(hL:L.length<=1073741824)(a0:∀x∈L,x.iZ=true->x.aT.length<=2000)(aS:∀x∈L,x.aT.length<=1073741824)(W:ax)(vb:ay)(name:ag)(h:XM W xb vn L g k vb m 0):
 ∃q,qi (nR L) (jf g) m k name q/\Calls prog 155 #[.pointer (some ⟨xb,0,none⟩),.string ⟨name.toArray⟩] W λe W'=>Ba xb vn L g m (C*eT L m+2000) q vb W e W' :=by
 obtain⟨c0,c6,c7,c8,I⟩:=h.cells;have f6:=I 6;have f7:=I 7;have f8:=I 8;obtain⟨i0,av,aF,aP,aq⟩:=UF Tryz.kJ;have a2:=aB av;have a3:=aB aF;have a4:=aB aP;have aZ:=aB aq;clear av aF aP aq;by_cases H:300<k+1
 ·refine⟨⟨[],5,k+1⟩,.inl ⟨H,rfl⟩,?_⟩;have HX:=aB h;have l:=h.uZ (k+1) 0 (.inl ⟨rfl,rfl,rfl⟩);have r:=l.uZ (k+1) 5 (.inr ⟨rfl,rfl,rfl⟩);have HF:Hid (XF W ((W.setCell ⟨xb,6,none⟩ (.int .i64 ((k+1:Nat):Int))).setCell ⟨xb,8,none⟩ (.int .i64 5)) xb vb vb):=(XF.set 6 _).trans (XF.set 8 _);have M:=aB r;obtain⟨-,d6,-,d8,s⟩:=l.cells;have e8:=s 8;have t1:wrap64 ((k:Int)+1)=((k+1:Nat):Int):=by unfold wrap64;omega
  have t2:(300:Int)<((k+1:Nat):Int):=by omega
  clear h l r I s hT;go_enter func155,ntmps155;go_wp2_with fail
  go_ret;exact⟨[],vb,k+1,rfl,M.u,λq=>by simp at q,HF.u,TS _⟩
 ·have l:XM (W.setCell ⟨xb,6,none⟩ (.int .i64 ((k:Int)+1))) xb vn L g (k+1) vb m 0:=h.uZ (k+1) 0 (.inl ⟨rfl,rfl,rfl⟩);have Q:Hid (XF W (W.setCell ⟨xb,6,none⟩ (.int .i64 ((k:Int)+1))) xb vb vb):=XF.set 6 _;generalize ah:W.setCell ⟨xb,6,none⟩ (.int .i64 ((k:Int)+1))=W1 at*;obtain⟨a,cap,b,o,rfl,n2,n3,n4⟩:=l.nm;have HV:=aB (M5 L name a cap b o W1 n2 n3 hL);obtain⟨ba,bc,bb,rfl,y1,y2,y3⟩:=gj.rd l.busy;have HI:Hid (∀G,Below W1.heap.size W1 G ->Calls prog 115 #[.slice ba m.length bc,.string ⟨name.toArray⟩] G λe j=>e= .returned (.bool (dO name m))/\j=G):=λG hb=>C_ m name ba bc bb 0 G y1 (by
   by_cases h0:0<m.length
   ·exact y3.aL hb (y2 h0)
   ·exact λd t=>by omega) (by omega)
  have z1:W1.heap.size≠xb:=Nat.ne_of_gt l.row.lt;obtain⟨d0,d6,d7,d8,s⟩:=l.cells;have e6:=s 6;have e7:=s 7;have e8:=s 8;have E:=aB l;have t1:wrap64 ((k:Int)+1)=(k:Int)+1:=by unfold wrap64;omega
  have t2:¬(300:Int)<(k:Int)+1:=by omega
  have HT:=aB (hT.resolve_left H);have aj:=aB n2;have am:=aB n3;clear h l I s hT n2 n3 n4 y1 y2 y3;by_cases i:(nR L name).mQ=true
  ·have a1:∃q,qi (nR L) (jf g) m k name q/\(name∉m->bM (nR L) (jf g) (m++[name]) (k+1) [] (nR L name).aT q)/\(name∈m->q=⟨[],4,k+1⟩):=by
    by_cases f:name∈m
    ·exact⟨_,.inr (.inl ⟨H,i,f,rfl⟩),λq=>absurd f q,λ_=>rfl⟩
    ·obtain⟨q,N,-⟩:=zb (nR L) (jf g) 301 (k+1) (by omega) (nR L name).aT.length (nR L name).aT ak (m++[name]) [];exact⟨q,.inr (.inr (.inl ⟨H,i,f,N⟩)),λ_=>N,λq=>absurd q f⟩
   obtain⟨q,N,aw,aH⟩:=a1;refine⟨q,N,?_⟩;have aC:=aB aw;have az:=aB aH;clear N aw aH;go_enter func155,ntmps155;go_wp2_with fail
   refine HV.u.mono ?_;rintro e j ⟨rfl,hv⟩;rcases hv with⟨d,t,rfl,f,P⟩|⟨-,f⟩
   case inr=>rw[f] at i;cases i
   have z:L[d].iZ=false:=by rw[f] at i;simpa using i
   obtain rfl:=aj.u (by omega);obtain⟨U,V,O⟩:=am.u d t;rw[z] at O;unfold aK at U V;have K:=aB f;have HL:=aB i;have aR:=aB P;have aW:=aB z;clear P;have t3:¬(d:Int)<0:=by omega
   have t4:(d:Int)<(L.length:Int):=by omega
   have y:=(TF j.heap.size j).alloc ak (.cells #[.string ⟨L[d].name.toArray⟩,.string ⟨L[d].aT.toArray⟩,.bool false] 223);have r:=E.u.aE y;obtain⟨g0,g6,g7,g8,fg⟩:=r.cells;have p7:=fg 7;have p8:=fg 8;have T:=aB y;clear f i z ah fg y;by_cases A:name∈m
   ·have ad:dO name m=true:=Uz A;have M:=aB (r.uZ (k+1) 4 (.inr ⟨rfl,rfl,rfl⟩));have ae:=aB ((Q.u.trans (XF.bA T.u)).trans (XF.set 8 (.int .i64 4)));have HE:=aB (az.u A);clear r;go_wp2_with (first|(go_at_call 115;refine(HI.u _ T.u).mono ?_;rintro e w3 ⟨rfl,rfl⟩;rw[ad])|fail)
    go_ret;rw[HE.u];exact⟨[],_,k+1,rfl,M.u,λq=>by simp at q,ae.u,TS _⟩
   ·have ad:dO name m=false:=UA A;have aa:=aC.u A;rw[K.u] at aa;have HQ:=aB aa;clear aa;have aI:=Fx A (TV t) aR.u aW.u;have af:C*(L[d].aT.length+eT L (m++[name]))<=C*eT L m:=V' _ aI;have aD:=aB (HT.u name A);have H2:=aB r;have aU:=aB (aG.bA j 223 [.string ⟨L[d].name.toArray⟩,.string ⟨L[d].aT.toArray⟩,.bool false]);have aX:Hid (xb+1<=j.heap.size):=E.u.row.lt;clear r aI aC az HT;go_wp2_with (first|(go_at_call 115;refine(HI.u _ T.u).mono ?_;rintro e w3 ⟨rfl,rfl⟩;rw[ad])|(at_builtin;go_loud (refine Uu _ rfl (.tmp 57) (.tmp 59) 30 rfl (xb+1) 9 i0 (.string ⟨#[]⟩) 1 16 UC a2.u a3.u a4.u aZ.u rfl (by decide) _ m.length _ rfl (T_ H2.u.busy _) ⟨_,0,none⟩ 1 1 [.string ⟨name.toArray⟩] rfl rfl (by have:=XU (j.alloc (.cells #[.string ⟨L[d].name.toArray⟩,.string ⟨L[d].aT.toArray⟩,.bool false] 223)) (.string ⟨name.toArray⟩) 9;rw[TM] at this;exact this) (sL _) (by unfold maxLen;omega) (by omega) (by rw[TM,TM];have:=aX.u;omega) ?_;intro v3 w4 ac ao aY aN;obtain⟨r1,r2,r3,r4⟩:=H2.u.grown ao ac aN;have an:=aB r2;have au:=aB r3;have k7:=r1.cell 7 (by simp);have l7:=r1.frozen 7;have ai:Hid (aG (w4.setCell ⟨xb,7,none⟩ v3) j.heap.size 223 [.string ⟨L[d].name.toArray⟩,.string ⟨L[d].aT.toArray⟩,.bool false]):=(r4 _ (by rw[TM];omega) z1 (λe=>by have:=(T3 E.u.busy _ e.symm).2;omega)).trans aU.u;have m1:=ai.u.cell 1 (by simp);simp only[TG,TI] at m1;obtain⟨a7,a8,rfl⟩:=dX ac;clear ac ao aY aN r1 r2 r3 r4))|fail)
    refine(aD.u _ _ _ q an.u HQ.u (TT af hC) (aS _ (TV t))).mono ?_;rintro e w6 ⟨u,vb',k',rfl,J,aJ,aM,aO⟩;obtain⟨F,v,ar,-,-⟩:=d_ J.busy (by simp);rw[TE,T6] at ar;subst ar;obtain⟨-,-,j7,-,fj⟩:=J.cells;have o7:=fj 7;have HP:=aB J.Tq;have al:Hid (XF w6 (w6.setCell ⟨xb,7,none⟩ (.slice (some ⟨F,0,none⟩) m.length v)) xb (.slice (some ⟨F,0,none⟩) (m.length+1) v) (.slice (some ⟨F,0,none⟩) m.length v)):=⟨(XF.set (vb:= .slice (some ⟨F,0,none⟩) (m.length+1) v) 7 _).bU,(XF.set 7 _).jo,.inl rfl⟩;have aV:=aB ((((Q.u.trans (XF.bA T.u)).trans au.u).trans aM).trans al.u);have aQ:=aB aJ;have ab:=aB (TT aO (TT af (XW _ 2000)));have a5:=wU (show w6.ownsRow (xb+1) 9 1 (.slice (some ⟨F,0,none⟩) (m.length+1) v) (m.length+1) ((m++[name]).map aK) from(by have:=J.busy;rw[TE,T6] at this;exact this));have t5:(m.length:Int)<=(v:Int):=by omega
    clear J aM aJ aO fj HQ aD an au ai k7 l7 m1 g0 g6 g7 g8 p7 p8 U V O af al;have t6:IntKind.i64.wrap ((m.length:Int)+1-1)=(m.length:Int):=by rw[wrap_small (by omega) (by omega)];omega
    have t8:IntKind.i64.wrap (m.length:Int)=(m.length:Int):=wrap_small (by omega) (by omega);have t9:¬(m.length:Int)<0:=by omega
    have a6:¬(v:Int)<(m.length:Int):=by omega
    have t7:((m.length:Int)+1-1)=(m.length:Int):=by omega
    go_wp2_with fail
    go_region_with fail
    all_goals go_wp2_with fail
    all_goals go_ret
    all_goals exact⟨u,_,k',rfl,HP.u.same rfl (λ_ _=>rfl) (λ_ _=>rfl),aQ.u,aV.u.xq,ab.u⟩
  ·refine⟨⟨(nR L name).aT,0,k+1⟩,.inr (.inr (.inr ⟨H,by simpa using i,rfl⟩)),?_⟩;go_enter func155,ntmps155;go_wp2_with fail
   refine HV.u.mono ?_;rintro e j ⟨rfl,hv⟩;rcases hv with⟨d,t,rfl,f,P⟩|⟨rfl,f⟩
   ·have z:L[d].iZ=true:=by rw[f] at i;simpa using i
    have aA:=a0 _ (TV t) z;obtain rfl:=aj.u (by omega);obtain⟨U,V,O⟩:=am.u d t;rw[z] at O;unfold aK at U V;have K:=aB f;have t3:¬(d:Int)<0:=by omega
    have t4:(d:Int)<(L.length:Int):=by omega
    have y:=(TF j.heap.size j).alloc ak (.cells #[.string ⟨L[d].name.toArray⟩,.string ⟨L[d].aT.toArray⟩,.bool true] 223);have M:=aB (E.u.aE y);have ae:=aB (Q.u.trans (XF.bA y));have ab:Hid (L[d].aT.length<=C*eT L m+2000):=aB (TT aA (Nat.le_add_left _ _));clear f i z ah y P aA;go_wp2_with fail
    go_ret;rw[K.u];exact⟨_,_,k+1,rfl,M.u,λ_=>⟨rfl,rfl⟩,ae.u,ab.u⟩
   ·have K:=aB f;clear f i ah;go_wp2_with fail
    go_ret;rw[K.u];exact⟨[],_,k+1,rfl,E.u,λ_=>⟨rfl,rfl⟩,Q.u,TS _⟩
structure XO (W:ax)(xb:Nat)(vn:ay)(L:List Rn)(g:Sg)(m:List ag)(vb:ay)(k:Nat)(vb' :ay)(er:Nat)(vo:ay)(o:ag)(wr:ax):Prop where
 x:XM wr xb vn L g k vb' m er
 f:XF W wr xb vb vb'
 o:dC wr W.heap.size vo o
 lt:xb<W.heap.size
section
variable {W wr X Y:ax} {xb:Nat} {vn vb vb' vo v1 vb2:ay} {L:List Rn} {g:Sg} {m:List ag} {k k2 er er2:Nat} {o p:ag}
theorem XO.bA (h:XM W xb vn L g k vb m er):XO W xb vn L g m vb k vb er (.slice none 0 0) [] W:=⟨h,XF.refl _ _ _,dC.nil _ _,h.row.lt⟩
theorem XO.bI (h:XO W xb vn L g m vb k vb' er vo o wr):∀q,vo.ownBlock=some q->W.heap.size<=q/\q<wr.heap.size:=λq a=>T3 h.o q a
theorem XO.ap (h:XO W xb vn L g m vb k vb' er vo o wr):∀q,vb'.ownBlock=some q->vo.ownBlock≠some q:=λq a d=>by
 have f:wr.ownsRow xb 9 1 vb' m.length (m.map aK):=pZ h.x.busy (by omega);have b:wr.ownsRow xb 5 1 vo o.length (o.map jr):=pZ h.o (by have:=h.lt;omega);rcases oy f b (by decide) with e|e
 ·rw[a] at e;cases e
 ·exact e (a.trans d.symm)
theorem XO.push (h:XO W xb vn L g m vb k vb' er vo o wr)(a:Below wr.heap.size wr X)(i:X.grownBy Y vo.ownBlock)(t:dC Y W.heap.size v1 (o++p)):XO W xb vn L g m vb k vb' er v1 (o++p) Y:=by
 have s:=h.lt;have v:=h.f.bU.size;have l:∀q,q<wr.heap.size->vo.ownBlock≠some q->Y.heap[q]?=wr.heap[q]?:=λq d b=>(i.block q (by have:=a.size;omega) (λe=>b e.symm)).trans (a.block q d);have r:∀q,q<W.heap.size->vo.ownBlock≠some q:=λq d b=>by have:=(h.bI q b).1;omega
 refine⟨h.x.same (l xb h.x.row.lt (r xb s)) (λq j=>l q (T3 h.x.busy q j).2 (h.ap q j)) (λq j=>l q (by omega) (r q (by omega))),⟨?_,λq d b u=> ?_,h.f.nQ⟩,t,s⟩
 ·exact h.f.bU.trans ⟨i.os.trans a.os,i.tape.trans a.tape,i.output.trans a.output,TT a.size i.size,λq j=>by omega⟩
 ·exact(l q (by omega) (r q d)).trans (h.f.jo q d b u)
theorem XO.pJ (h:XO W xb vn L g m vb k vb' er vo o wr)(d:XM Y xb vn L g k2 vb2 m er2)(b:XF wr Y xb vb' vb2):XO W xb vn L g m vb k2 vb2 er2 vo o Y:=⟨d,h.f.trans b,bT h.o λq a=>b.jo q (h.bI q a).2 (by have:=(h.bI q a).1;have:=h.lt;omega) (λe=>h.ap q e.symm a),h.lt⟩
theorem XO.cy (h:XO W xb vn L g m vb k vb' er vo o wr)(e:Nat):XO W xb vn L g m vb k vb' e vo o (wr.setCell ⟨xb,8,none⟩ (.int .i64 (e:Int))):=h.pJ (h.x.uZ k e (.inr ⟨rfl,rfl,rfl⟩)) (XF.set 8 _)
end
structure TA (W:ax)(xb:Nat)(vn:ay)(L:List Rn)(g:Sg)(m:List ag)(vb:ay)(C k0:Nat)(t:ag)(r:Er)(vo:ay)(i:Nat)(wr:ax):Prop where
 ok:∃(k:Nat) (vb' :ay) (o:ag),XO W xb vn L g m vb k vb' 0 vo o wr/\bM (nR L) (jf g) m k o (t.drop i) r/\k0<=k/\k<=300/\o.length<=C*i
 le:i<=t.length
def TB (W:ax)(xb:Nat)(vn:ay)(L:List Rn)(g:Sg)(m:List ag)(vb:ay)(d:Nat)(b:ag)(a:Er)(vo:ay)(wr:ax):Prop:=a.er≠0/\∃(k:Nat) (vb' :ay) (o:ag),XO W xb vn L g m vb k vb' a.er vo o wr/\o.length<=d*(b.length+eT L m)
theorem ue {w:ax}{B:Nat}{v:ay}{o:ag}{S:az}(h:w.ownsRow B 5 1 v (o.length+S.size) (o.map jr++Lib.strCells S)):dC w B v (o++S.data.toList):=by unfold dC;rw[TE,T',<-Uf];exact h
def SW (xb:Nat)(vn:ay)(L:List Rn)(g:Sg)(d a:Nat)(m:List ag):Prop:=∀(k:Nat),a<=k->k<=300->∀(W:ax) (vb:ay) (name:ag),XM W xb vn L g k vb m 0->
 ∃q,qi (nR L) (jf g) m k name q/\(q.er=0->q.bE.length<=2000/\k<=q.bq/\q.bq<=300)/\Calls prog 155 #[.pointer (some ⟨xb,0,none⟩),.string ⟨name.toArray⟩] W λe b=>Ba xb vn L g m (d*eT L m+2000) q vb W e b
theorem Ar (p a:Nat)(h:a=p+1)(b:p<=4611686018427387904):wrap64 ((p:Int)+1)=(a:Int):=by subst h;unfold wrap64;omega
theorem Gx {o u:ag}(h:o.length+u.length<=140000000000000):o.length+(⟨u.toArray⟩:az).size<=maxLen/\o.length+(⟨u.toArray⟩:az).size<=140737488355328:=by
 have e:(⟨u.toArray⟩:az).size=u.length:=by simp[ByteArray.size]
 rw[e];unfold maxLen;omega
theorem OH {N:ag->Nv}{b:UInt8->Option ag}{m:List ag}{k:Nat}{o:ag}{d:Er}(h:bM N b m k o [] d):d=gC o k:=by
 have e:=bM.nH (N:=N) (sg:=b) (m:=m) (k:=k) (a:=o) (t:=[]) rfl;have f:da o (Mk.bj 36 [])=o:=by unfold da;split<;>simp[Mk.bj]
 rw[f] at e;exact h.kC e
theorem MC {xb:Nat}{vn:ay}{L:List Rn}{g:Sg}{j N:Nat}{m:List ag}(a9:SW xb vn L g j N m)(bS:1000<=j)(bN:g.ja.length<=2*j)(bD:g.first.length<=2*j)(bw:g.all.length<=2*j)(bK:g.stem.length<=2*j)(bG:N<=300):Ay xb vn L g j N m:=by
 intro W vb aZ y hX hE hB bB;obtain⟨S,rfl⟩:∃S:az,aZ=S.data.toList:=⟨⟨aZ.toArray⟩,by simp⟩;have hS:(⟨S.data.toList.toArray⟩:az)=S:=(ie (t:=S) rfl).symm;rw[hS];have aN:=Uf S;rw[<-aN] at bB;obtain⟨i0,bj,a8,bp,bc⟩:=UF Tryz.F_;have V:=aB bj;have aa:=aB a8;have ab:=aB bp;have Q:=aB bc;have HR:=aB a9;have HB:=aB hB;have F:=aB aN;have bg:Hid (TA W xb vn L g m vb j N S.data.toList y (.slice none 0 0) 0 W):=⟨⟨N,vb,[],XO.bA hX,hE,TD _,bG,TS _⟩,TS _⟩;clear bj a8 bp bc a9 hB hX hE hS aN;go_enter func116,ntmps116;go_wp2_with fail
 go_loopw [5,6] (λvo iv wr=>∃d:Nat,iv= .int .i64 (d:Int)/\d<=S.size+1/\(Hid (TA W xb vn L g m vb j N S.data.toList y vo d wr)\/Hid (TB W xb vn L g m vb j S.data.toList y vo wr))) (λ_ iv _=>S.size+1-aS iv)
 case atStart=>exact⟨0,rfl,TS _,.inl bg⟩
 case round=>
  clear bg;obtain⟨d,rfl,hi,bP⟩:=hrel;rename_i wr;rcases bP with HA|HT
  ·obtain⟨⟨k,vb',o,E,hx,aL,aE,aQ⟩,bI⟩:=HA.u;rw[<-F.u] at bI;clear HA;obtain⟨vs,vc,aV⟩:=dX E.o;subst aV;obtain⟨-,-,-,c8,fz⟩:=E.x.cells;have f8:=fz 8;have c1:=E.x.row.cell 1 (by simp);have c2:=E.x.row.cell 2 (by simp);have c3:=E.x.row.cell 3 (by simp);have c4:=E.x.row.cell 4 (by simp);have c5:=E.x.row.cell 5 (by simp);simp only[TG,TI] at c1 c2 c3 c4 c5;unfold aK at c2 c3 c4 c5;have r:=aB E;have HX:=aB hx;clear E hx fz;have bY:o.length<=140000000000000:=by have H:j*d<=j*(S.data.toList.length+eT L m):=V' _ (by rw[<-F.u];omega);have:=HB.u;omega
   by_cases J:d<S.size
   ·have bo :d<S.data.toList.length:=by rw[<-F.u];exact J
    have aA:S.data.toList.drop d=(S[d]'J)::S.data.toList.drop (d+1):=T2 bo;have T:=aB aA;clear aA bo;have t1:(d:Int)<(S.size:Int):=by omega
    have a6:Hid (j*d+j<=j*(d+1)):=aB (by rw[Nat.mul_succ];exact TD _);by_cases I:(S[d]'J)=36
    ·have q0:(((S[d]'J).toNat:Int))=36:=by rw[I];rfl
     have af:=HX.u;rw[T.u,I] at af;have an:=aB af;have al:Hid (y.er=1->TB W xb vn L g m vb j S.data.toList y (.slice vs o.length vc) (wr.setCell ⟨xb,8,none⟩ (.int .i64 1))):=aB (λe=>by
      refine⟨by rw[e];decide,k,vb',o,?_,?_⟩
      ·rw[e];exact r.u.cy 1
      ·have H:j*d<=j*(S.data.toList.length+eT L m):=V' _ (by rw[<-F.u];omega);omega)
     clear af I HX T;by_cases i:d+1<S.size
     ·have aA:S.data.toList.drop (d+1)=(S[d+1]'i)::S.data.toList.drop (d+2):=T2 (by rw[<-F.u];exact i);have T:=aB aA;have t3:(d:Int)+1<(S.size:Int):=by omega
      have ae:Hid (j*d+2*j<=j*(d+2)):=aB (by rw[abf,Nat.mul_comm j 2];exact TD _);have bl:∀c:UInt8,(S[d+1]'i)=c->c≠36->c≠40->jf g c=none->y.er=1:=λc I H K C=>by have hd:=an.u;rw[T.u,I] at hd;rw[hd.kC ((bM.nG (r:=y) (km _).1 (by rw[(km _).2.2]) H K).1 C)]
      have aG:=aB bl;clear bl aA;rcases(show (S[d+1]'i)=36\/(S[d+1]'i)=40\/((S[d+1]'i)≠36/\(S[d+1]'i)≠40) by by_cases a1:(S[d+1]'i)=36<;>by_cases a2:(S[d+1]'i)=40<;>simp[a1,a2]) with hc2|hc2|⟨hn36,hn40⟩
      ·have U:(((S[d+1]'i).toNat:Int))=36:=by rw[hc2];rfl
       have M:Hid (∀v1 t,t.ownsRow W.heap.size 5 1 v1 (o.length+1) (o.map jr++[jr 36])->(wr.alloc (.cells #[jr 36] 5)).grownBy t (Value.slice vs o.length vc).ownBlock->TA W xb vn L g m vb j N S.data.toList y v1 (d+2) t):=aB (λv1 t H K=>by
        refine⟨⟨k,vb',o++[36],r.u.push (aj wr _) K (by simpa [dC] using H),?_,aL,aE,?_⟩,by rw[<-F.u];omega⟩
        ·have C:=an.u;rw[T.u,hc2] at C;refine C.step λq s=>bM.xl (km _).1 (by rw[(km _).2.2]) ?_;rw[(km _).2.1];refine s.aC (i_.symm ?_);have h4:da o []=o:=by unfold da;split<;>simp
         rw[h4];exact i_.cd _ _
        ·rw[TE,T6];have:=ae.u;omega)
       clear hc2 aG;go_wp2_with (first|(at_builtin;refine Uo _ rfl (.tmp 49) (.tmp 50) 126 rfl W.heap.size 5 i0 (.int .u8 0) 1 1 Ui V.u aa.u ab.u Q.u rfl (by decide) _ o.length _ rfl (T_ r.u.o _) ⟨_,0,none⟩ 1 1 [jr 36] rfl rfl (pc wr _ _) (λu hu=>by rw[TL.1 hu];rfl) (by unfold maxLen;omega) (by omega) (by rw[TM];have:=r.u.f.bU.size;omega) ?_;intro v1 t A z G;have ad:=aB (M.u v1 t A z);clear A z G)|fail)
       go_roundw
       case rel=>exact⟨d+2,by go_num,by omega,.inl ad⟩
       case measure=>simp only[aS];omega
      ·have U:(((S[d+1]'i).toNat:Int))=40:=by rw[hc2];rfl
       have af:=an.u;rw[T.u,hc2] at af;have ai:=aB af;clear af hc2 aG an T a6;have ba:Hid (∀x∈(S.data.toList.drop (d+2)).take 0,x≠41):=aB (λx hx=>by simp at hx);have bh:j*d+2000<=j*(S.data.toList.length):=by have H:j*(d+2)<=j*S.data.toList.length:=V' _ (by rw[<-F.u];omega);have:=ae.u;omega
       have aF:=aB bh;clear bh;go_wp2_with fail
       go_loopw [8] (λkv w9=>∃n:Nat,kv= .int .i64 ((d+2+n:Nat):Int)/\d+2+n<=S.size/\Hid (∀x∈(S.data.toList.drop (d+2)).take n,x≠41)/\w9=wr) (λkv _=>S.size+1-aS kv)
       case atStart=>exact⟨0,by go_num,by omega,ba,rfl⟩
       case round=>
        clear ba;obtain⟨n,rfl,hn,HQ,bz⟩:=hrel;subst bz;have ah:(S.data.toList.drop (d+2)).length=S.size-(d+2):=by rw[UM,<-F.u]
        have ak:(S.extract (d+2) (d+2+n)).data.toList=(S.data.toList.drop (d+2)).take n:=by rw[sm,YL];simp
        have t4:(d:Int)+2+(n:Int)<=(S.size:Int):=by omega
        by_cases hj:d+2+n<S.size
        ·have aH:(S.data.toList.drop (d+2))[n]'(by rw[ah];omega)=(S[d+2+n]'hj):=by rw[List.getElem_drop];rfl
         have t6:(d:Int)+2+(n:Int)<(S.size:Int):=by omega
         by_cases am:(S[d+2+n]'hj)=41
         ·have q2:(((S[d+2+n]'hj).toNat:Int))=41:=by rw[am];rfl
          obtain⟨f1,f2,f3⟩:=(EM (l:=S.data.toList.drop (d+2)) HQ.u).2 (by rw[ah];omega) (by rw[aH];exact am);have aO:=aB f1;have aw:=aB f2;have aY:=aB f3;clear f1 f2 f3 aH am ah;have t7:((d:Int)+2+(n:Int)==(S.size:Int))=false:=by rw[TQ];omega
          cases v:eo ((S.data.toList.drop (d+2)).take n) with
          |false=>
           have ar:Hid (eo (S.extract (d+2) (d+2+n)).data.toList=false):=aB (by rw[ak];exact v);have aM:Hid (y=⟨[],1,k⟩):=aB (ai.u.kC (bM.gS (km _).1 (by rw[(km _).2.2]) (.inr (by rw[aw.u];exact v))));have HE:=aB (r.u.cy 1);clear v ak HQ aO aw aY ai al aF ae HB HR V aa ab Q;go_upto_region 26 with fail
           obtain⟨p,hp⟩:∃p:Nat,p=d+1:=⟨_,rfl⟩;obtain⟨a,ha⟩:∃a:Nat,a=d+2:=⟨_,rfl⟩;obtain⟨b,v⟩:∃b:Nat,b=d+2+n:=⟨_,rfl⟩;have P:(d:Int)+2+(n:Int)=(b:Int):=by omega
           have e2:(d:Int)+1=(p:Int):=by omega
           have e4:(a:Int)<=(b:Int):=by omega
           have e5:(b:Int)<=(S.size:Int):=by omega
           have e6:a<=b/\b<=S.size:=by omega
           have ao:Hid ((S.extract a b).size<=4294967296):=aB (by simp only[Xz];omega);have e7:((b:Int)==(S.size:Int))=false:=by rw[<-P];exact t7
           rw[P,e2];have e3:=Ar p a (by omega) (by omega);rw[<-v,<-ha] at ar;clear P e2 hp ha v t4 t6 t3 t1 t7 e6;go_wp2_with (first|(go_at_call 154;refine(qN _ _ ao.u).mono ?_;rintro e w5 ⟨rfl,rfl⟩;rw[ar.u])|fail)
           go_ret;rw[aM.u];exact⟨[],vb',k,rfl,HE.u.x,λe=>(by cases e),HE.u.f,TS _⟩
          |true=>
           obtain⟨q,s,be,aP⟩:=HR.u k aL aE wr vb' ((S.data.toList.drop (d+2)).take n) r.u.x;have bs:S.extract (d+2) (d+2+n)=⟨((S.data.toList.drop (d+2)).take n).toArray⟩:=by rw[sm,YL];simp
           rw[<-bs] at aP;have ar:Hid (eo (S.extract (d+2) (d+2+n)).data.toList=true):=aB (by rw[ak];exact v);have br:=aB aP;have aW:=aB ((bM.pJ (a:=o) (r:=q) (km _).1 (by rw[(km _).2.2]) aO.u (by rw[aw.u];exact v) (by rw[aw.u];exact s)));have bt:=aB be;have a5:Hid (∀u:ag,u.length<=j*eT L m+2000->o.length+u.length<=j*(S.data.toList.length+eT L m)):=aB (λu hu=>by have H:=aF.u;rw[abf];omega);have bu:Hid (∀u vb2 k2 v1 w7,XO W xb vn L g m vb k2 vb2 q.er v1 (o++u) w7->(q.er=0->u=q.bE/\k2=q.bq)->u.length<=j*eT L m+2000->TA W xb vn L g m vb j N S.data.toList y v1 (d+2+n+1) w7\/TB W xb vn L g m vb j S.data.toList y v1 w7):=aB (λu vb2 k2 v1 w7 aR aI au=>by
            by_cases h0:q.er=0
            ·obtain⟨rfl,rfl⟩:=aI h0;obtain⟨z1,z2,z3⟩:=bt.u h0;rw[h0] at aR;refine .inl ⟨⟨q.bq,vb2,o++q.bE,aR,?_,by omega,z3,?_⟩,by rw[<-F.u];omega⟩
             ·have C:=ai.u.step (aW.u.2 h0);rw[aY.u,(km _).2.1,Ws] at C;have h4:da o []=o:=by unfold da;split<;>simp
              rw[h4] at C;exact C.aC (i_.cd _ _)
             ·rw[TE];have h5:j*(d+2)<=j*(d+2+n+1):=V' _ (by omega);have:=ae.u;omega
            ·have C:=ai.u.kC (aW.u.1 h0);refine .inr ⟨by rw[C];exact h0,k2,vb2,o++u,by rw[C];exact aR,?_⟩;rw[TE];exact a5.u u au)
           clear v ak HQ aO aw aY ai al aF ae HR s be aP bs aW bt;go_upto_region 26 with fail
           obtain⟨p,hp⟩:∃p:Nat,p=d+1:=⟨_,rfl⟩;obtain⟨a,ha⟩:∃a:Nat,a=d+2:=⟨_,rfl⟩;obtain⟨b,v⟩:∃b:Nat,b=d+2+n:=⟨_,rfl⟩;have P:(d:Int)+2+(n:Int)=(b:Int):=by omega
           have e2:(d:Int)+1=(p:Int):=by omega
           have e4:(a:Int)<=(b:Int):=by omega
           have e5:(b:Int)<=(S.size:Int):=by omega
           have e6:a<=b/\b<=S.size:=by omega
           have ao:Hid ((S.extract a b).size<=4294967296):=aB (by simp only[Xz];omega);have e7:((b:Int)==(S.size:Int))=false:=by rw[<-P];exact t7
           have bd:Hid (b=d+2+n):=v;rw[P,e2];rw[<-v,<-ha] at ar br;rw[<-v] at bu;have bQ:=HB.u;have e3:=Ar p a (by omega) (by omega);clear P e2 hp ha v t4 t6 t3 t1 t7 e6 bQ;go_wp2_with (first|(go_at_call 154;refine(qN _ _ ao.u).mono ?_;rintro e w5 ⟨rfl,rfl⟩;rw[ar.u])|(go_at_call 155;refine br.u.mono ?_;rintro e w6 ⟨u,vb2,k2,rfl,a0,aI,a',au⟩;have aT:=aB (r.u.pJ a0 a');have bF:=aB aI;have bJ:=aB au;have bn:=aB (TT (a5.u u au) HB.u);clear a0 aI a' au)|(at_builtin;refine VT _ rfl (.tmp 161) (.tmp 162) 126 9 rfl W.heap.size 5 i0 Ui T0 V.u aa.u ab.u Q.u _ o.length _ rfl aT.u.o ⟨u.toArray⟩ rfl (Gx bn.u).1 (Gx bn.u).2 aT.u.f.bU.size ?_;intro v1 w7 A z G;have bC:=aB (bu.u u vb2 k2 v1 w7 (aT.u.push (TF _ _) z (by simpa using ue A)) bF.u bJ.u);clear A z G)|fail)
           clear e3 e7;go_roundw
           case rel=>exact⟨b+1,by go_num,by have:=bd.u;omega,bC.u⟩
           case measure=>simp only[aS];have:=bd.u;omega
         ·have t8:((((S[d+2+n]'hj).toNat:Int)) !=41)=true:=by
           rw[UY];intro e;exact am (V6.1 (by simpa using Xi e))
          have bR:Hid (∀x∈(S.data.toList.drop (d+2)).take (n+1),x≠41):=aB (by
           intro x hx;rw[TW (by rw[ah];omega)] at hx;rcases T4.1 hx with h|h
           ·exact HQ.u x h
           ·rw[TL.1 h,aH];exact am)
          clear aH am ah ak HQ;go_wp2_with fail
          go_roundw
          case rel=>exact⟨n+1,by go_num,by omega,bR,trivial⟩
          case measure=>simp only[aS];omega
        ·have aM:Hid (y=⟨[],1,k⟩):=aB (ai.u.kC (bM.gS (km _).1 (by rw[(km _).2.2]) (.inl ((EM (l:=S.data.toList.drop (d+2)) HQ.u).1 (by rw[ah];omega)))));have HE:=aB (r.u.cy 1);have t6:¬(d:Int)+2+(n:Int)<(S.size:Int):=by omega
         clear ak ah HQ ai al aF ae HR V aa ab Q;go_upto_region 26 with fail
         obtain⟨p,hp⟩:∃p:Nat,p=d+1:=⟨_,rfl⟩;obtain⟨a,ha⟩:∃a:Nat,a=d+2:=⟨_,rfl⟩;obtain⟨b,v⟩:∃b:Nat,b=d+2+n:=⟨_,rfl⟩;have P:(d:Int)+2+(n:Int)=(b:Int):=by omega
         have e2:(d:Int)+1=(p:Int):=by omega
         have e4:(a:Int)<=(b:Int):=by omega
         have e5:(b:Int)<=(S.size:Int):=by omega
         have e6:a<=b/\b<=S.size:=by omega
         have ao:Hid ((S.extract a b).size<=4294967296):=aB (by simp only[Xz];omega);have bO:Hid (((b:Int)==(S.size:Int))=true):=aB (by rw[UR];omega);have bv :((d+2+n:Nat):Int)=(b:Int):=by omega
         rw[bv,e2];clear bv;have e3:=Ar p a (by omega) (by omega);have e7:=bO.u;clear P e2 hp ha v t4 t6 t3 t1 e6 HB;go_wp2_with (first|(go_at_call 154;refine(qN _ _ ao.u).mono ?_;rintro e w5 ⟨rfl,rfl⟩;generalize eo (S.extract a b).data.toList=bb)|fail)
         all_goals go_ret
         all_goals rw[aM.u]
         all_goals exact⟨[],vb',k,rfl,HE.u.x,λe=>(by cases e),HE.u.f,TS _⟩
      ·have a_:(S[d+1]'i)=64\/(S[d+1]'i)=60\/(S[d+1]'i)=94\/(S[d+1]'i)=42\/((S[d+1]'i)≠64/\(S[d+1]'i)≠60/\(S[d+1]'i)≠94/\(S[d+1]'i)≠42):=by
        by_cases a1:(S[d+1]'i)=64
        ·exact .inl a1
        ·by_cases a2:(S[d+1]'i)=60
         ·exact .inr (.inl a2)
         ·by_cases a3:(S[d+1]'i)=94
          ·exact .inr (.inr (.inl a3))
          ·by_cases a4:(S[d+1]'i)=42
           ·exact .inr (.inr (.inr (.inl a4)))
           ·exact .inr (.inr (.inr (.inr ⟨a1,a2,a3,a4⟩)))
       have M:Hid (∀p v1 t,jf g (S[d+1]'i)=some p->p.length<=2*j->dC t W.heap.size v1 (o++p)->wr.grownBy t (Value.slice vs o.length vc).ownBlock->TA W xb vn L g m vb j N S.data.toList y v1 (d+2) t):=aB (λp v1 t h0 hp H K=>by
        refine⟨⟨k,vb',o++p,r.u.push (TF _ wr) K H,?_,aL,aE,?_⟩,by rw[<-F.u];omega⟩
        ·have C:=an.u;rw[T.u] at C;refine C.step λq s=>(bM.nG (r:=q) (km _).1 (by rw[(km _).2.2]) hn36 hn40).2 p h0 ?_;rw[(km _).2.1];refine s.aC (i_.symm ?_);have h4:da o []=o:=by unfold da;split<;>simp
         rw[h4];exact i_.cd _ _
        ·rw[TE];have:=ae.u;omega)
       have aJ:=aB (aG.u _ rfl hn36 hn40);have bV:o.length+2*j<=140000000000000:=by have H:j*(d+2)<=j*(S.data.toList.length+eT L m):=V' _ (by rw[<-F.u];omega);have:=HB.u;have:=ae.u;omega
       have v:∀c:UInt8,(S[d+1]'i)≠c->((((S[d+1]'i).toNat:Int))==(c.toNat:Int))=false:=λc I=>by rw[TQ];intro e;exact I (V6.1 (Xi e))
       have bW:((((S[d+1]'i).toNat:Int))==36)=false:=v 36 hn36;have bT:((((S[d+1]'i).toNat:Int))==40)=false:=v 40 hn40;have O:=aB v;clear hn36 hn40 aG v;cases ac:g.on with
       |true=>
        rw[ac] at c1;rcases a_ with s|s|s|s|⟨hq1,hq2,hq3,hq4⟩
        case' inl=>have U:(((S[d+1]'i).toNat:Int))=64:=by rw[s];rfl
        case' inr.inl=>have U:(((S[d+1]'i).toNat:Int))=60:=by rw[s];rfl
        case' inr.inr.inl=>have U:(((S[d+1]'i).toNat:Int))=94:=by rw[s];rfl
        case' inr.inr.inr.inl=>have U:(((S[d+1]'i).toNat:Int))=42:=by rw[s];rfl
        case' inr.inr.inr.inr=>have b1:((((S[d+1]'i).toNat:Int))==64)=false:=O.u 64 hq1;have b2:((((S[d+1]'i).toNat:Int))==60)=false:=O.u 60 hq2;have b3:((((S[d+1]'i).toNat:Int))==94)=false:=O.u 94 hq3;have b4:((((S[d+1]'i).toNat:Int))==42)=false:=O.u 42 hq4;have av:=aB (aJ.u (by unfold jf;rw[ac,TJ (by decide),TJ hq1,TJ hq2,TJ hq3,TJ hq4]));clear hq1 hq2 hq3 hq4 M
        all_goals clear O aJ
        all_goals go_wp2_with (first|(at_builtin;(refine VT _ rfl (.tmp 62) (.tmp 67) 126 9 rfl W.heap.size 5 i0 Ui T0 V.u aa.u ab.u Q.u _ o.length _ rfl r.u.o ⟨g.ja.toArray⟩ rfl (by unfold maxLen;simp only[ByteArray.size,VH];omega) (by simp only[ByteArray.size,VH];omega) (by have:=r.u.f.bU.size;omega) ?_;intro v1 t A z G;have ad:=aB (M.u g.ja v1 t (by unfold jf;rw[ac,s];rfl) bN (by simpa using ue A) z);clear A z G))|(at_builtin;refine VT _ rfl (.tmp 79) (.tmp 84) 126 9 rfl W.heap.size 5 i0 Ui T0 V.u aa.u ab.u Q.u _ o.length _ rfl r.u.o ⟨g.first.toArray⟩ rfl (by unfold maxLen;simp only[ByteArray.size,VH];omega) (by simp only[ByteArray.size,VH];omega) (by have:=r.u.f.bU.size;omega) ?_;intro v1 t A z G;have ad:=aB (M.u g.first v1 t (by unfold jf;rw[ac,s];rfl) bD (by simpa using ue A) z);clear A z G)|(at_builtin;refine VT _ rfl (.tmp 96) (.tmp 101) 126 9 rfl W.heap.size 5 i0 Ui T0 V.u aa.u ab.u Q.u _ o.length _ rfl r.u.o ⟨g.all.toArray⟩ rfl (by unfold maxLen;simp only[ByteArray.size,VH];omega) (by simp only[ByteArray.size,VH];omega) (by have:=r.u.f.bU.size;omega) ?_;intro v1 t A z G;have ad:=aB (M.u g.all v1 t (by unfold jf;rw[ac,s];rfl) bw (by simpa using ue A) z);clear A z G)|(at_builtin;refine VT _ rfl (.tmp 113) (.tmp 118) 126 9 rfl W.heap.size 5 i0 Ui T0 V.u aa.u ab.u Q.u _ o.length _ rfl r.u.o ⟨g.stem.toArray⟩ rfl (by unfold maxLen;simp only[ByteArray.size,VH];omega) (by simp only[ByteArray.size,VH];omega) (by have:=r.u.f.bU.size;omega) ?_;intro v1 t A z G;have ad:=aB (M.u g.stem v1 t (by unfold jf;rw[ac,s];rfl) bK (by simpa using ue A) z);clear A z G)|fail)
        all_goals go_roundw
        all_goals first
         |exact⟨d+2,by go_num,by omega,.inl ad⟩
         |exact⟨d+2,by go_num,by omega,.inr (al.u av.u)⟩
         |(simp only[aS];omega)
       |false=>
        rw[ac] at c1;have av:=aB (aJ.u (by unfold jf;rw[ac,TP rfl]));rcases a_ with s|s|s|s|⟨hq1,hq2,hq3,hq4⟩
        case' inl=>have U:(((S[d+1]'i).toNat:Int))=64:=by rw[s];rfl
        case' inr.inl=>have U:(((S[d+1]'i).toNat:Int))=60:=by rw[s];rfl
        case' inr.inr.inl=>have U:(((S[d+1]'i).toNat:Int))=94:=by rw[s];rfl
        case' inr.inr.inr.inl=>have U:(((S[d+1]'i).toNat:Int))=42:=by rw[s];rfl
        case' inr.inr.inr.inr=>have b1:((((S[d+1]'i).toNat:Int))==64)=false:=O.u 64 hq1;have b2:((((S[d+1]'i).toNat:Int))==60)=false:=O.u 60 hq2;have b3:((((S[d+1]'i).toNat:Int))==94)=false:=O.u 94 hq3;have b4:((((S[d+1]'i).toNat:Int))==42)=false:=O.u 42 hq4;clear hq1 hq2 hq3 hq4
        all_goals clear O aJ M
        all_goals go_wp2_with fail
        all_goals go_roundw
        all_goals first
         |exact⟨d+2,by go_num,by omega,.inr (al.u av.u)⟩
         |(simp only[aS];omega)
     ·have t3:¬(d:Int)+1<(S.size:Int):=by omega
      have av:Hid (y.er=1):=aB (by have hd:=an.u;rw[aaH (by rw[<-F.u];omega)] at hd;rw[hd.kC (bM.nil (km _).1 (by rw[(km _).2.2]))]);go_wp2_with fail
      go_roundw
      case rel=>exact⟨d+2,by go_num,by omega,.inr (al.u av.u)⟩
      case measure=>simp only[aS];omega
    ·have t2:(((S[d]'J).toNat:Int) !=36)=true:=by
      rw[UY];intro e;exact I (V6.1 (by simpa using Xi e))
     have M:Hid (∀v1 t,t.ownsRow W.heap.size 5 1 v1 (o.length+1) (o.map jr++[jr (S[d]'J)])->(wr.alloc (.cells #[jr (S[d]'J)] 5)).grownBy t (Value.slice vs o.length vc).ownBlock->TA W xb vn L g m vb j N S.data.toList y v1 (d+1) t):=aB (λv1 t H K=>by
      refine⟨⟨k,vb',o++[S[d]'J],r.u.push (aj wr _) K (by simpa [dC] using H),?_,aL,aE,?_⟩,by rw[<-F.u];omega⟩
      ·have C:=HX.u;rw[T.u] at C;exact C.step λq s=>s.u4 I
      ·rw[TE,T6];have:=a6.u;omega)
     clear I;go_wp2_with (first|(at_builtin;refine Uo _ rfl (.tmp 28) (.tmp 32) 126 rfl W.heap.size 5 i0 (.int .u8 0) 1 1 Ui V.u aa.u ab.u Q.u rfl (by decide) _ o.length _ rfl (T_ r.u.o _) ⟨_,0,none⟩ 1 1 [jr (S[d]'J)] rfl rfl (pc wr _ _) (λu hu=>by rw[TL.1 hu];rfl) (by unfold maxLen;omega) (by omega) (by rw[TM];have:=r.u.f.bU.size;omega) ?_;intro v1 t A z G;have ad:=aB (M.u v1 t A z);clear A z G)|fail)
     go_roundw
     case rel=>exact⟨d+1,by go_num,by omega,.inl ad⟩
     case measure=>simp only[aS];omega
   ·have a7:d=S.size:=by omega
    have aD:=HX.u;rw[aaH (by rw[<-F.u];omega)] at aD;have hr:=OH aD;have t1:¬(d:Int)<(S.size:Int):=by omega
    have bH:=r.u.o.conv;have HU:Hid (o.length<=j*(S.data.toList.length+eT L m)):=aB (by have H:j*d<=j*(S.data.toList.length+eT L m):=V' _ (by rw[<-F.u];omega);omega);by_cases K:2000<o.length
    ·have aq:y=⟨[],5,k⟩:=by rw[hr];unfold gC;rw[TP K]
     have HE:=aB (r.u.cy 5);have bX:(convert 126 9 (.slice vs o.length vc)).run prog (wr.setCell ⟨xb,8,none⟩ (.int .i64 5))= .ok (.string ⟨o.toArray⟩) (wr.setCell ⟨xb,8,none⟩ (.int .i64 5)):=(r.u.cy 5).o.conv;have t2:(2000:Int)<(o.length:Int):=by omega
     have aX:=aB aq;clear hr aD aq a7;go_wp2_with fail
     go_ret;rw[aX.u];exact⟨o,vb',k,rfl,HE.u.x,λe=>(by cases e),HE.u.f,HU.u⟩
    ·have aq:y=⟨o,0,k⟩:=by rw[hr];unfold gC;rw[TJ K]
     have t2:¬(2000:Int)<(o.length:Int):=by omega
     have aX:=aB aq;clear hr aD aq a7;go_wp2_with fail
     go_ret;rw[aX.u];exact⟨o,vb',k,rfl,r.u.x,λ_=>⟨rfl,rfl⟩,r.u.f,HU.u⟩
  ·obtain⟨aU,k,vb',o,E,aQ⟩:=HT.u;obtain⟨vs,vc,aV⟩:=dX E.o;subst aV;obtain⟨-,-,-,c8,-⟩:=E.x.cells;have bH:=E.o.conv;have t1:((y.er:Int)==0)=false:=by rw[TQ];omega
   have r:=aB E;clear E HT;by_cases J:(d:Int)<(S.size:Int)
   ·go_wp2_with fail
    go_ret;exact⟨o,vb',k,rfl,r.u.x,λe=>absurd e aU,r.u.f,aQ⟩
   ·go_wp2_with fail
    go_ret;exact⟨o,vb',k,rfl,r.u.x,λe=>absurd e aU,r.u.f,aQ⟩
theorem Ou {L:List Rn}(b:∀x∈L,x.iZ=true->x.aT.length<=2000)(n:ag)(h:(nR L n).mQ=false):(nR L n).aT.length<=2000:=by
 unfold nR at h⊢;cases a:L.reverse.find? (λx=>x.name==n) with
 |none=>exact TS _
 |some x=>rw[a] at h;exact b x (List.mem_reverse.1 (Uw a)) (by simpa using h)
theorem M7 {L:List Rn}{g:Sg}{m:List ag}{k:Nat}{name:ag}{q:Er}(f:∀x∈L,x.iZ=true->x.aT.length<=2000)(h:qi (nR L) (jf g) m k name q)(d:q.er=0):q.bE.length<=2000/\k<=q.bq/\q.bq<=300:=by
 rcases h with⟨-,rfl⟩|⟨-,-,-,rfl⟩|⟨i,-,-,e⟩|⟨i,e,rfl⟩
 ·cases d
 ·cases d
 ·obtain⟨a,b,c⟩:=e.Tc;exact⟨b d,by omega,c (by omega) d⟩
 ·exact⟨Ou f name e,Ww _,by show k+1<=300;omega⟩
theorem FU {xb:Nat}{vn:ay}{L:List Rn}{g:Sg}{C:Nat}(l:1000<=C)(h:g.ja.length<=2*C)(i:g.first.length<=2*C)(d:g.all.length<=2*C)(e:g.stem.length<=2*C)(f:L.length<=1073741824)(a:∀x∈L,x.iZ=true->x.aT.length<=2000)(s:∀x∈L,x.aT.length<=1073741824):
 ∀(n k:Nat) (m:List ag),301-k<=n->k<=300->m.length<=k->C*eT L m<=140000000000000->Ay xb vn L g C k m
 |0,k,m,A,F,_,_=>by omega
 |n+1,G,m,A,z,I,j=>by
  refine MC (λk H t W vb name v=> ?_) l h i d e z;obtain⟨q,r,y⟩:=Mf (C:=C) (by
   by_cases u:300<k+1
   ·exact .inl u
   ·refine .inr λb E=>FU l h i d e f a s n (k+1) (m++[b]) (by omega) (by omega) (by rw[TE,T6];omega) ?_;exact TT (V' _ (yR L m b)) j) j t (by omega) f a s W vb name v
  exact⟨q,r,M7 a r,y⟩
def IA (g:Sg):ay:= .agg #[.bool g.on,aK g.ja,aK g.first,aK g.all,aK g.stem]
def I5:Sg:=⟨false,[],[],[],[]⟩
def pN (W:ax)(vn:ay)(L:List Rn):Prop:=∃a cap b o,vn= .slice a L.length cap/\(0<L.length->a=some ⟨b,o,none⟩)/\tD W b o L/\(0<L.length->b<W.heap.size)
theorem pN.aE {W i :ax}{vn:ay}{L:List Rn}(h:pN W vn L)(d:Below W.heap.size W i):pN i vn L:=by obtain⟨a,cap,b,o,s,j,l,f⟩:=h;refine⟨a,cap,b,o,s,j,?_,λe=>T7 (f e) d.size⟩;intro r q;exact(l.aL d (f (by omega))) r q
structure AJ (L:List Rn):Prop where
 len:L.length<=1073741824
 S8:∀x∈L,x.iZ=true->x.aT.length<=2000
 bE:∀x∈L,x.aT.length<=1073741824
 sum:eT L []<=110000000
structure xy (g:Sg):Prop where
 ja:g.ja.length<=1310000
 first:g.first.length<=1310000
 all:g.all.length<=1310000
 stem:g.stem.length<=1310000
theorem R_:xy I5:=⟨by decide,by decide,by decide,by decide⟩
theorem SN:jf I5=λ_=>none:=by funext c;rfl
theorem XM.bA {W:ax}{vn:ay}{L:List Rn}{g:Sg}(h:pN W vn L):
 XM ((W.alloc (.cells #[.bool g.on,aK g.ja,aK g.first,aK g.all,aK g.stem] 152)).alloc (.cells #[vn,.bool g.on,aK g.ja,aK g.first,aK g.all,aK g.stem,.int .i64 0,.slice none 0 0,.int .i64 0] 232)) (W.heap.size+1) vn L g 0 (.slice none 0 0) [] 0:=by have d:=aG.bA (W.alloc (.cells #[.bool g.on,aK g.ja,aK g.first,aK g.all,aK g.stem] 152)) 232 [vn,.bool g.on,aK g.ja,aK g.first,aK g.all,aK g.stem,.int .i64 0,.slice none 0 0,.int .i64 0];rw[TM] at d;have l:Below W.heap.size W ((W.alloc (.cells #[.bool g.on,aK g.ja,aK g.first,aK g.all,aK g.stem] 152)).alloc (.cells #[vn,.bool g.on,aK g.ja,aK g.first,aK g.all,aK g.stem,.int .i64 0,.slice none 0 0,.int .i64 0] 232)):=(aj W _).alloc (by rw[TM];omega) _;obtain⟨a,cap,b,o,s,i,j,f⟩:=h;refine⟨d,Uk _ _ _ _,a,cap,b,o,s,i,λr q=>(j.aL l (f (by omega))) r q,λe=> ?_⟩;have:=f e;omega
def kf (a:Er):ay:= .tuple #[.string ⟨(if a.er=0 then a.bE else []).toArray⟩,.int .i64 (a.er:Int)]
theorem C' {W:ax}{vn:ay}{L:List Rn}(h:pN W vn L)(j:AJ L){g:Sg}(l:xy g)(P:d.length<=100000000){r:Er}(E:bM (nR L) (jf g) [] 0 [] d r):
 Calls prog 72 #[vn,.string ⟨d.toArray⟩,IA g] W λe O=>e= .returned (kf r)/\Below W.heap.size W O :=by
 have t:=aB (XM.bA (g:=g) h);have v:655000*eT L []<=140000000000000:=by have:=j.sum;omega
 have y:=aB (FU (xb:=W.heap.size+1) (vn:=vn) (C:=655000) (by omega) (by have:=l.ja;omega) (by have:=l.first;omega) (by have:=l.all;omega) (by have:=l.stem;omega) j.len j.S8 j.bE 301 0 [] (by omega) (by omega) ak v _ _ d r t.u E (by have:=j.sum;omega) (by omega));have K:Hid (Below W.heap.size W ((W.alloc (.cells #[.bool g.on,aK g.ja,aK g.first,aK g.all,aK g.stem] 152)).alloc (.cells #[vn,.bool g.on,aK g.ja,aK g.first,aK g.all,aK g.stem,.int .i64 0,.slice none 0 0,.int .i64 0] 232))):=(aj W _).alloc (by rw[TM];omega) _;clear v E h;obtain⟨a,cap,b,o,rfl,-,-,-⟩:=t.u.nm;unfold IA;unfold aK at*;go_enter func72,ntmps72;go_wp2_with fail
 refine y.u.mono ?_;rintro e H ⟨u,vb',Q,rfl,F,A,z,-⟩;obtain⟨-,-,-,I,-⟩:=F.cells;have G:Below W.heap.size W H:=by have M:=z.aL (VA t.u.row.lt) (λq J=>by cases J);exact K.u.trans (M.mono (by omega))
 have f:=aB G;have N:=aB A;clear F z A G y;by_cases i:r.er=0
 ·rw[i] at I;obtain⟨rfl,-⟩:=N.u i;have s:Hid (kf r= .tuple #[.string ⟨r.bE.toArray⟩,.int .i64 0]):=by show kf r=_;unfold kf;rw[TP i,i];rfl
  go_wp2_with fail
  go_ret2
  exact⟨by rw[s.u];rfl,f.u⟩
 ·have T:((r.er:Int)==0)=false:=by rw[TQ];omega
  have s:Hid (kf r= .tuple #[.string ⟨#[]⟩,.int .i64 (r.er:Int)]):=by show kf r=_;unfold kf;rw[TJ i]
  go_wp2_with fail
  go_region_with fail
  all_goals go_wp2_with fail
  all_goals go_ret2
  all_goals exact⟨by rw[s.u];rfl,f.u.os,f.u.tape,f.u.output,f.u.size,f.u.block⟩
