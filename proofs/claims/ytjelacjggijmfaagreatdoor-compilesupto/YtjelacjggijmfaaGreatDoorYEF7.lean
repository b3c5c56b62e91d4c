/- . -/
import Derived.Test.YtjelacjggijmfaaGreatDoorYEF6
set_option maxHeartbeats 8000000
set_option maxRecDepth 20000
namespace Go.Proofs.YtjelacjggijmfaaGreatDoor
open Pl Mk Cp Proofs.Tryz
open RowKit
variable {d l f:Nat}{a:Nat->Bool}
theorem FY {w:ax}{n:Nat}(h:aG w l 4 ((List.range n).map λq=> .bool (a q)))(b:d<n):w.cell? ⟨l,d,none⟩=some (.bool (a d)):=by have:=h.cell d (by simpa using b);rw[this,Ut,X6]
theorem PY {w:ax}{n k:Nat}{s:Bool}(h:aG w d 4 ((List.range n).map λq=> .bool (a q))):aG (w.setCell ⟨d,k,none⟩ (.bool s)) d 4 ((List.range n).map λq=> .bool (if q=k then s else a q)):=by
 have b:=h.set k (.bool s);have e:((List.range n).map λq=>Value.bool (a q)).set k (.bool s)=(List.range n).map λq=> .bool (if q=k then s else a q):=by
  apply XV
  ·simp
  ·intro c b f;rw[aah];simp only[Ut,X6];by_cases e:k=c
   ·rw[TP e,TP e.symm]
   ·rw[TJ e,TJ (λq=>e q.symm)]
 rw[<-e];exact b
theorem O7 (w:ax)(n:Nat):aG (w.alloc (.cells (madeCells #[.bool false] n) 4)) w.heap.size 4 ((List.range n).map λ_=> .bool false):=by
 have h:=aG.jV w 4 (.bool false) n;have e:((List.range n).map λ_=>Value.bool false)=List.replicate n (.bool false):=by
  apply XV
  ·simp
  ·intro c b a;simp
 rw[e];exact h
structure nT (W1:ax)(ve:ay)(bx sb nb n:Nat)(fl:Nat->Bool)(X:Wd)(y:Wn)(vf vc:ay)(wr:ax):Prop where
 rw:RW wr (bx+1) bx ve vf vc X
 st:aG wr sb 4 ((List.range n).map λq=> .bool (fl q))
 bU:Below bx W1 wr
 nd:aG wr nb 116 (iH y)
variable {i b:ax}{g j c:ay}
theorem nT.aE {wr:ax}{vc:ay}{nb n:Nat}{X:Wd}{y:Wn}(h:nT i g d l nb n a X y j vc wr)(c:Below wr.heap.size wr b):nT i g d l nb n a X y j vc b :=⟨h.rw.aE c,h.st.aE c,h.bU.trans (c.mono (VA h.rw.row.lt)),h.nd.aE c⟩
theorem nT.SX {wr:ax}{n k:Nat}{s:Bool}{X:Wd}{y:Wn}(h:nT i g l d f n a X y j c wr)(z:l<=d):nT i g l d f n (λq=>if q=k then s else a q) X y j c (wr.setCell ⟨d,k,none⟩ (.bool s)):=by
 have m:∀q,q≠d->(wr.setCell ⟨d,k,none⟩ (.bool s)).heap[q]?=wr.heap[q]?:=λq b=>T5 _ _ _ _ b;have w:=h.st;have o:∀{q e:Nat} {v:Array ay} {u:Nat×Nat},wr.heap[q]?=some (.cells v e u)->e≠4->q≠d:=λr x e=>by rw[e] at r;unfold aG at w;rw[w] at r;simp at r;exact x r.2.1.symm
 refine⟨⟨(m _ (o h.rw.row (by decide))).trans h.rw.row,bT h.rw.aX λq b=> ?_,bT h.rw.aH λq b=> ?_,h.rw.lt⟩,PY h.st,h.bU.setCell (p:=⟨d,k,none⟩) z _,(m _ (o h.nd (by decide))).trans h.nd⟩
 ·obtain⟨v,u,t⟩:=eN h.rw.aX q b;exact m q (o t (by decide))
 ·obtain⟨v,u,t⟩:=eN h.rw.aH q b;exact m q (o t (by decide))
def A' (X:Wd)(W:ax)(e:Ending)(a :ax):Prop:=Below W.heap.size W a /\∃b c,e= .returned (.agg #[b,c,.int .i64 X.exit,.int .i64 X.aP])/\gj a W.heap.size b X.aH/\fR a W.heap.size c (eX X.aX)
variable {m:List aI}
theorem O_ {S:List ag}{i:Int}(e:∀f∈m,f.aJ∈S):Fit S (gQ m i).aX:=by
 have:∀(a b:List aI),(∀f∈a,f.aJ∈S)->Fit S b->Fit S (a.foldl Pl.bp b):=λa=>by
  induction a with
  |nil=>intro b _ h;exact h
  |cons x l g=>intro b c h;exact g _ (λf j=>c f (TX _ j)) (h.add (c x (TY ..)))
 exact this m [] e ⟨by simp[oG],λk d=>(by cases d)⟩
theorem Ra {W:ax}{B:Nat}{X:Wd}(f:Below W.heap.size W i)(c:gj i B g X.aH)(b:fR i d j (eX X.aX))(h:W.heap.size<B)(k:W.heap.size<d):A' X W (.returned (.agg #[g,j,.int .i64 X.exit,.int .i64 X.aP])) ((((i.setCell ⟨W.heap.size,0,none⟩ g).setCell ⟨W.heap.size,1,none⟩ j).setCell ⟨W.heap.size,2,none⟩ (.int .i64 X.exit)).setCell ⟨W.heap.size,3,none⟩ (.int .i64 X.aP)):=by
 have e:∀q,q≠W.heap.size->((((i.setCell ⟨W.heap.size,0,none⟩ g).setCell ⟨W.heap.size,1,none⟩ j).setCell ⟨W.heap.size,2,none⟩ (.int .i64 X.exit)).setCell ⟨W.heap.size,3,none⟩ (.int .i64 X.aP)).heap[q]?=i.heap[q]?:=λq a=>by rw[T5 _ ⟨W.heap.size,3,none⟩ _ q a,T5 _ ⟨W.heap.size,2,none⟩ _ q a,T5 _ ⟨W.heap.size,1,none⟩ _ q a,T5 _ ⟨W.heap.size,0,none⟩ _ q a]
 refine⟨(((f.setCell (p:=⟨W.heap.size,0,none⟩) ak _).setCell (p:=⟨W.heap.size,1,none⟩) ak _).setCell (p:=⟨W.heap.size,2,none⟩) ak _).setCell (p:=⟨W.heap.size,3,none⟩) ak _,g,j,rfl,?_,?_⟩
 ·exact pZ (bT c λq a=>e q (by have:=(T3 c q a).1;omega)) (by omega)
 ·exact pZ (bT b λq a=>e q (by have:=(T3 b q a).1;omega)) (by omega)
theorem Rp {W:ax}{b:Bk}{r:List Wn}{o:Wk}{B:List (List ag)}(hw:eA i W d l m b g j [g] r.length r o.aW 0 0)(bi:r.map (·.x)=o.aQ.map (·.1))(bq:∀p (h:p<o.aW.length),(r.getD o.aW[p] iA).cs=B.getD p [])(bM:B.length=o.aW.length)(c_:iL B<=500)(au:rK b m o)(bs:∀p∈o.aW,∀n∈(bS o p).1.aF,∃I,dj o.aQ n=some I)(N:List aI)(t:List bL)(a J:Option Addr)(cap fb fo ce L be oe:Nat)(aP:Int)(ha:0<N.length->a=some ⟨fb,fo,none⟩)(hr:dA W fb fo N)(cX:fb<W.heap.size)(cA:N.length<=8388608)(c2:0<t.length->J=some ⟨be,oe,none⟩)(hE:nP W L be oe t)(hL:L<=W.heap.size)(cq:t.length<=8388608)(c6:∀e∈t,e.eO.length<=8388608)(S:List ag)(hS:S.length<=8388608)(cu:∀f∈N,f.aJ∈S)(bu:∀e∈t,∀f∈e.eO,f.aJ∈S):
 Calls prog 18 #[.pointer (some ⟨d,0,none⟩),.slice a N.length cap,.slice J t.length ce,.int .i64 aP] W λe W'=>A' (mx t o (o.aW.zip B) (λ_=>false) (gQ N aP)) W e W' :=by
 have bZ:r.length=o.aQ.length:=by have:=TU List.length bi;simpa using this
 have dp:=au.len;have df:o.aW.length<=1310000:=by rw[au.ol];exact au.len
 have bw:∀w,(Instr.makeSlice 82 (.int .i64 (r.length:Int)) (.int .i64 (r.length:Int))).run prog w= .ok (.slice (some ⟨w.heap.size,0,none⟩) r.length r.length) (w.alloc (.cells (madeCells #[.bool false] r.length) 4)):=XE (P:=prog) 82 4 (.bool false) 1 ZT Tryz.zw rfl .i64 .i64 r.length (by omega) (by omega);have a7:Below W.heap.size W (W.alloc (.cells #[.slice none 0 0,.slice none 0 0,.int .i64 0,.int .i64 0] 32)):=aj W _;have CN:=aB (BR N a J cap fb fo t.length ce aP (W.alloc (.cells #[.slice none 0 0,.slice none 0 0,.int .i64 0,.int .i64 0] 32)) ha (hr.aL a7 cX) (by rw[TM];omega) cA);have c3:=aB (aG.bA W 32 [.slice none 0 0,.slice none 0 0,.int .i64 0,.int .i64 0]);have b_:=aB a7;obtain⟨aN,cN,gN,a1,c5,cU⟩:=hw.tf;have V:=hw.row.cell 1 (by simp);simp only[TG,TI] at V;rw[a1] at V;have cd:=hw.row.lt;have cW:=aB bw;have HW:=aB hw;have b':=aB bZ;have aM:=aB bM;have db:r.length<=1310000:=by omega
 clear bZ bM;clear a7 hr ha hw cU c5;generalize bB:mx t o (o.aW.zip B) (λ_=>false) (gQ N aP)=fin;have bK:=aB bB;clear bB;go_enter func18,ntmps18;go_upto_region 3 with(first|(go_at_call 43;refine CN.u.mono ?_;rintro e Y ⟨rfl,vf,vc,aa,a_⟩;have bm:=aB aa;have aD:=aB a_;have cC :=((b_.u.tr a_).cell (p:=⟨d,1,none⟩) cd).trans V;clear aa a_ V CN)|fail)
 rw[TM] at bm aD;have al:Below Y.heap.size Y (Y.alloc (.cells (madeCells #[.bool false] r.length) 4)):=aj Y _;have b3:=aD.u.size;rw[TM] at b3;have c8:Hid (A4 W (W.alloc (.cells #[.slice none 0 0,.slice none 0 0,.int .i64 0,.int .i64 0] 32)) t o B S (.slice J t.length ce) (W.heap.size+1) Y.heap.size r.length fin 0 (λ_=>false) (gQ N aP) vf vc (Y.alloc (.cells (madeCells #[.bool false] r.length) 4))):=aB ⟨bm.u.aE al,O7 Y r.length,aD.u.trans (al.mono (by omega)),O_ cu,TS _,bK.u⟩;generalize Y.alloc (.cells (madeCells #[.bool false] r.length) 4)=w3 at*;clear al bm aD cC cW bw bK;generalize cm:Y.heap.size=sb at*;generalize cP:W.alloc (.cells #[.slice none 0 0,.slice none 0 0,.int .i64 0,.int .i64 0] 32)=W1 at*;clear cP cm;have a8:Hid (∀wr,Below (W.heap.size+1) W1 wr->eA i wr d l m b g j [g] r.length r o.aW 0 0/\nP wr L be oe t/\aG wr W.heap.size 32 [.slice none 0 0,.slice none 0 0,.int .i64 0,.int .i64 0]/\Below W.heap.size W wr):=aB λwr hb=>by have C:Below W.heap.size W wr:=b_.u.trans (hb.mono (by omega));exact⟨HW.u.aE C,hE.aL (C.mono hL),c3.u.aL hb (by omega),C⟩
 go_wp2_with fail
 go_loopw [11] (λiv wr=>∃(p:Nat) (D:Nat->Bool) (X:Wd) (vf vc:ay),iv= .int .i64 p/\p<=o.aW.length/\Hid (A4 W W1 t o B S (.slice J t.length ce) (W.heap.size+1) sb r.length fin p D X vf vc wr)) (λiv _=>o.aW.length-aS iv)
 case atStart=>exact⟨0,_,_,_,_,rfl,TS _,c8⟩
 case round=>
  obtain⟨p,D,X,a4,a2,rfl,hi,H⟩:=hrel;obtain⟨F,ad,U,ab⟩:=a8.u wr H.u.bU;have k2:=F.row.cell 2 (by simp);have V:=F.row.cell 1 (by simp);simp only[TG,TI] at V k2;rw[a1] at V;obtain⟨aO,cO,bO,oO,cp,bl,bf⟩:=F.aW;rw[cp] at k2;obtain⟨x0,-,-,-,x4⟩:=H.u.rw.cells;have dh:=U.lt;by_cases O:p<o.aW.length/\X.exit=0
  ·obtain⟨O,cE⟩:=O;have ti:(p:Int)<(o.aW.length:Int):=by omega
   have aw:=au.lt _ (TV O);have ai:o.aW[p]<r.length:=by have:=b'.u;omega
   obtain⟨a',c',g',e',bD,bY⟩:=F.tf;rw[a1] at e';cases e';have cS:=bD (by omega);have o0:=bf p O;have cM:=(bl (by omega)).1;have aq:=bq p O;have b2:r.getD o.aW[p] iA=r[o.aW[p]]:=by rw[TO,TH ai];rfl
   rw[b2] at aq;have aT:r[o.aW[p]].x=(bS o o.aW[p]).1:=by have C:=TU (λcZ=>cZ[o.aW[p]]?) bi;simp only[UG,TH ai,TH aw,XB,WN] at C;unfold bS;rw[TO,TH aw,C];rfl
   have aU:=H.u.go;have bX:p<(o.aW.zip B).length:=by rw[aaQ,aM.u];omega
   have bE:p<B.length:=by rw[aM.u];exact O
   rw[T2 bX,mx,TP cE,List.getElem_zip,<-aT] at aU;have b7:B.getD p []=B[p]:=by rw[TO,TH bE];rfl
   rw[b7] at aq;rw[<-aq] at aU;have bj:=bs o.aW[p] (TV O);rw[<-aT] at bj;have co:iL (B.take (p+1))=iL (B.take p)+r[o.aW[p]].cs.length:=by rw[TW bE,y_,aq]
   have b5:=au.sz _ (TV aw);have bG:=(F.aF r[o.aW[p]] (TV ai));have bP:=F.aH o.aW[p] ai (by omega);have ah:∀A u,(iH r[o.aW[p]])[A]?=some u->wr.cell? ⟨g',o.aW[p]*7+A,none⟩=some u:=bY _ ai;have da:iL (B.take (p+1))<=iL B:=by
    have C:iL B=iL (B.take (p+1))+iL (B.drop (p+1)):=by
     conv=>lhs;rw[<-VW (p+1) B]
     unfold iL;rw[T',X4]
    omega
   have ck:Hid (mx t o ((o.aW.zip B).drop (p+1)) (λq=>if q=o.aW[p] then lR o D X.aX r[o.aW[p]].x else D q) (if lR o D X.aX r[o.aW[p]].x=true then gv t r[o.aW[p]].cs X else X)=fin):=aB aU;have cg:=aB bj;have cJ:=aB bi;have ba:=aB H.u.IZ;have dq:=H.u.gG;have dn:=H.u.rw.row.lt;obtain⟨an,cn,aC⟩:=bG.1.iN;obtain⟨ac,Z,ap⟩:=bP.1.iN;have cB:=(qV r[o.aW[p]].x.aF).1;have dd:r[o.aW[p]].x.aF.length<=1304704:=by have:=b5.sum;rw[<-show(bS o o.aW[p]).1=(o.aQ[o.aW[p]]).1 by unfold bS;rw[TO,TH aw];rfl,<-aT] at this;omega
   clear aU bj aq b2 b7 bX b5 bG bP cB aT aw bq bs bY bD bl bf;generalize bF:r[o.aW[p]]=y at*;generalize cT:o.aW[p]=kk at*;clear cT;have n0:=ah 0 _ rfl;have n1:=ah 1 _ rfl;have n2:=ah 2 _ rfl;have n3:=ah 3 _ rfl;have n4:=ah 4 _ rfl;have n5:=ah 5 _ rfl;have n6:=ah 6 _ rfl;rw[Ve] at n0;rw[aC] at n1;rw[ap] at n6;unfold aK at n0 n3;unfold gI at n2;subst cS cM;have dg:(kk:Int)<(r.length:Int):=by omega
   have aV:Below wr.heap.size wr (wr.alloc (.cells #[.string ⟨y.x.name.toArray⟩,.slice an y.x.aF.length cn,.int .i64 (im y.x.gu),.string ⟨y.x.stem.toArray⟩,.bool y.x.ph,.bool y.ov,.slice ac y.cs.length Z] 116)):=aj wr _;have ca:=aG.bA wr 116 [.string ⟨y.x.name.toArray⟩,.slice an y.x.aF.length cn,.int .i64 (im y.x.gu),.string ⟨y.x.stem.toArray⟩,.bool y.x.ph,.bool y.ov,.slice ac y.cs.length Z];have bn:Hid (nT W1 (.slice J t.length ce) (W.heap.size+1) sb wr.heap.size r.length D X y a4 a2 (wr.alloc (.cells #[.string ⟨y.x.name.toArray⟩,.slice an y.x.aF.length cn,.int .i64 (im y.x.gu),.string ⟨y.x.stem.toArray⟩,.bool y.x.ph,.bool y.ov,.slice ac y.cs.length Z] 116))):=aB ⟨H.u.rw.aE aV,H.u.st.aE aV,H.u.bU.trans (aV.mono (by omega)),by unfold iH;rw[aC,ap];exact ca⟩;have bV:=bF;clear ah ca H bF aV F ad U ab;go_upto_region 8 with fail
   generalize wr.alloc (.cells #[.string ⟨y.x.name.toArray⟩,.slice an y.x.aF.length cn,.int .i64 (im y.x.gu),.string ⟨y.x.stem.toArray⟩,.bool y.x.ph,.bool y.ov,.slice ac y.cs.length Z] 116)=wA at*;generalize wr.heap.size=nb at*;clear n0 n1 n2 n3 n4 n5 n6 V k2 o0 x0 x4;have hM:=bn.u;obtain⟨x0,-,-,-,x4⟩:=hM.rw.cells;obtain⟨af,cf,gf,cF,cQ,cb,cw⟩:=hM.rw.aX.rd;have Q:=hM.nd.cell 0 (by simp[iH]);have b4:=hM.nd.cell 4 (by simp[iH]);simp only[iH,TG,TI] at Q b4;unfold aK at Q;rw[cF] at x0;have cy:=ba.u.len;have CF:Hid (∀w,Below wA.heap.size wA w->Calls prog 45 #[.slice af X.aX.length cf,.string ⟨y.x.name.toArray⟩] w λe w'=>e= .returned (.int .i64 (iG X.aX y.x.name))/\w=w'):=aB λw hb=>n_ X.aX y.x.name af cf gf 0 w cQ (λp hi=>cb.aL hb (cw (by omega)).2.1 p hi) (by omega);have dc:=hM.rw.row.lt;have dk:=hM.nd.lt;clear hM;go_cut [14] from 58 to 69 (λsv wx=>sv= .bool (y.x.ph||(Pl.look X.aX y.x.name).isNone)/\Hid (Below wA.heap.size wA wx))
   case first=>
    obtain⟨pp,bd⟩:∃pp,pp=y.x.ph:=⟨_,rfl⟩;rw[<-bd] at b4;have bH:=aB bd;clear bd;cases pp with
    |true=>
     go_quiet (fail)
     go_wp2_with fail
     go_meet
     case rel=>exact⟨by rw[<-bH.u];rfl,aB (Below.drewN (TF _ _) _)⟩
    |false=>
     have cI:(iG X.aX y.x.name<0/\(Pl.look X.aX y.x.name).isNone=true)\/(¬iG X.aX y.x.name<0/\(Pl.look X.aX y.x.name).isNone=false):=by
      rcases oY (fs:=X.aX) (p:=y.x.name) with⟨C,R⟩|⟨A,hj,C,R⟩
      ·exact .inl ⟨by rw[C];decide,by rw[R];rfl⟩
      ·exact .inr ⟨by rw[C];omega,by rw[R];rfl⟩
     generalize iG X.aX y.x.name=ix at*;rcases cI with⟨C,R⟩|⟨C,R⟩;all_goals
      go_quiet (first|(go_at_call 45;exact V_ ((CF.u _ (Below.drewN (TF _ _) _)).mono (λ_ _ h=>⟨h.1,h.2.symm⟩))))
     all_goals go_wp2_with fail
     all_goals go_meet
     all_goals exact⟨by rw[<-bH.u,R];rfl,aB (Below.drewN (TF _ _) _)⟩
   case rest=>
    obtain⟨rfl,bN⟩:=hcut;have b6:=aB (bn.u.aE bN.u);clear bn bN CF x0 x4 Q b4 cy;have cD:Hid (lR o D X.aX y.x=((y.x.ph||(Pl.look X.aX y.x.name).isNone)||y.x.aF.any λn=>D (ou o n)||h_ X.aX y.x.name n)):=aB (by unfold lR;rw[Y9]);generalize (y.x.ph||(Pl.look X.aX y.x.name).isNone)=s0 at*;obtain⟨wC,rfl⟩:∃wC,wC=wc:=⟨wc,rfl⟩;go_wp2_with fail
    go_loopw [14,15] (λsv jv wq=>∃(A:Nat) (s:Bool),sv= .bool s/\jv= .int .i64 A/\A<=y.x.aF.length/\Hid (s=(s0||(y.x.aF.take A).any λn=>D (ou o n)||h_ X.aX y.x.name n))/\Hid (nT W1 (.slice J t.length ce) (W.heap.size+1) sb nb r.length D X y a4 a2 wq)) (λ_ jv _=>y.x.aF.length-aS jv)
    case atStart=>exact⟨0,s0,rfl,rfl,TS _,aB (by simp),b6⟩
    case round=>
     obtain⟨A,s,rfl,rfl,hj,HS,M⟩:=hrel;obtain⟨F,ad,U,ab⟩:=a8.u wr M.u.bU;have b1:=M.u.nd.cell 1 (by simp[iH]);have Q:=M.u.nd.cell 0 (by simp[iH]);simp only[iH,TG,TI] at Q b1;unfold aK at Q;rw[aC] at b1;by_cases a5:A<y.x.aF.length
     ·have tj:(A:Int)<(y.x.aF.length:Int):=by omega
      have cK:y∈r:=by rw[<-bV];exact TV _
      obtain⟨a9,k9,b9,o9,aA,az,ar⟩:=(F.aF y cK).1;rw[aC] at aA;cases aA;obtain⟨rfl,bJ⟩:=az (by omega);have e9:=ar A a5;unfold aK at e9;obtain⟨I,hp⟩:=cg.u y.x.aF[A] (TV a5);have bR:ou o y.x.aF[A]=I:=by unfold ou;rw[hp];rfl
      have cj:I<r.length:=by obtain⟨q,-⟩:=uq hp;have:=b'.u;omega
      have a3:=aB (BH y.x.name y.x.aF[A] _ _ _ _ _ X wr.drew (M.u.rw.aE (TF _ wr).drew) (by have:=ba.u.len;omega));have CP:Hid (∀w,Below wr.heap.size wr w->Calls prog 55 #[.pointer (some ⟨d,0,none⟩),.string ⟨y.x.aF[A].toArray⟩] w λe w'=>e= .returned (.int .i64 (I:Int))/\w' =w):=aB λw hb=>by have:=Me (F.aE hb) cJ.u (by omega) y.x.aF[A];rw[hp] at this;exact this
      have cx:Hid ((y.x.aF.take (A+1)).any (λn=>D (ou o n)||h_ X.aX y.x.name n)=((y.x.aF.take A).any (λn=>D (ou o n)||h_ X.aX y.x.name n)||(D I||h_ X.aX y.x.name y.x.aF[A]))):=aB (by rw[wH a5,bR]);unfold aK at a3;have bC:=M.u.nd.lt;have dl:=M.u.st.lt;have tp:(I:Int)<(r.length:Int):=by omega
      clear az ar hp bR F ad U ab;generalize h_ X.aX y.x.name y.x.aF[A]=nw at*;generalize y.x.aF[A]=z at*;go_upto_region 12 with fail
      go_region_held3 (λw'=>w'.cell? ⟨nb,0,none⟩=some (.string ⟨y.x.name.toArray⟩)/\w'.cell? ⟨nb,1,none⟩=some (.slice (some ⟨b9,o9,none⟩) y.x.aF.length cn)/\w'.cell? ⟨b9,o9+A,none⟩=some (.string ⟨z.toArray⟩)) (first|with_reducible exact⟨Q,b1,e9⟩|with_reducible exact⟨bt,cR,cr⟩|go_keep) (first|(go_at_call 48;refine a3.u.mono ?_;rintro e w5 ⟨rfl,ak⟩;have am :=(TF _ wr).drew.trans ak;have bt :=(am.cell (p:=⟨nb,0,none⟩) bC).trans Q;have cR :=(am.cell (p:=⟨nb,1,none⟩) bC).trans b1;have cr :=(am.cell (p:=⟨b9,o9+A,none⟩) bJ).trans e9;have bx:=aB (M.u.aE am);have c0:=aB (CP.u _ am);have p5:=FY bx.u.st cj;clear ak am)|fail)
      clear Q b1 e9 bt a3 CP;have HE:Hid (∀q:Bool,q=(s||(nw||D I))->∃(j' :Nat) (s' :Bool),Value.bool q= .bool s' /\Value.int .i64 ((A:Int)+1)= .int .i64 (j' :Int)/\j' <=y.x.aF.length/\Hid (s' =(s0||(y.x.aF.take j').any λn=>D (ou o n)||h_ X.aX y.x.name n))/\Hid (nT W1 (.slice J t.length ce) (W.heap.size+1) sb nb r.length D X y a4 a2 w5)):=aB λq hq=>⟨A+1,q,rfl,by go_num,by omega,aB (by rw[cx.u,<-Y9,<-HS.u,hq,Bool.or_comm nw]),bx⟩;cases s with
      |true=>
       go_wp2_with fail
       first
        |exact⟨HE.u true (by simp),by simp only[aS];omega⟩
        |(go_roundw;exact HE.u true (by simp);simp only[aS];omega)
      |false=>
       cases nw with
       |true=>
        go_wp2_with fail
        first
         |exact⟨HE.u true (by simp),by simp only[aS];omega⟩
         |(go_roundw;exact HE.u true (by simp);simp only[aS];omega)
       |false=>
        go_wp2_with (first|(go_at_call 55;refine c0.u.mono ?_;rintro e _ ⟨rfl,c4⟩;subst c4)|fail)
        first
         |exact⟨HE.u _ (by simp),by simp only[aS];omega⟩
         |(go_roundw;exact HE.u _ (by simp);simp only[aS];omega)
     ·have tj:¬(A:Int)<(y.x.aF.length:Int):=by omega
      have bQ:s=lR o D X.aX y.x:=by rw[cD.u,HS.u,Uh (by omega)]
      have c1:=aB bQ;clear bQ HS F ad U ab Q;have p0:=FY M.u.st ai;have f0:=M.u.st.frozen kk;have cY:=aB (M.u.SX (k:=kk) (s:=s) b3);have bI:=aB ck.u;rw[<-c1.u] at bI;go_wp2_with fail
      clear p0 f0 b1 M b6;have cG:=aB ba.u;generalize wr.setCell ⟨sb,kk,none⟩ (.bool s)=wD at*;go_loopw [17] (λjv wq=>∃(A:Nat) (G:Wd) (aY aR:ay),jv= .int .i64 A/\A<=y.cs.length/\Hid (nT W1 (.slice J t.length ce) (W.heap.size+1) sb nb r.length (λq=>if q=kk then s else D q) G y aY aR wq)/\Hid (Fit S G.aX)/\G.aH.length<=X.aH.length+A/\Hid ((if s=true then gv t y.cs X else X)=(if s=true then gv t (y.cs.drop A) G else G))) (λjv _=>y.cs.length-aS jv)
      case atStart=>exact⟨0,X,_,_,rfl,TS _,cY,cG,by omega,aB rfl⟩
      case round=>
       obtain⟨E,G,aY,aR,rfl,c9,K,bk,de,bo⟩:=hrel;have m6:=K.u.nd.cell 6 (by simp[iH]);simp only[iH,TG,TI] at m6;rw[ap] at m6;obtain⟨-,-,-,-,x4⟩:=K.u.rw.cells;by_cases hc:E<y.cs.length/\s=true/\G.exit=0
       ·obtain⟨bp,rfl,bT⟩:=hc;have di:(E:Int)<(y.cs.length:Int):=by omega
        rw[bT] at x4;obtain⟨F,ad,U,ab⟩:=a8.u wr K.u.bU;have gp:=(F.aH kk ai (by omega)).1;rw[bV] at gp;obtain⟨a9,k9,b9,o9,aA,az,ar⟩:=gp;rw[ap] at aA;cases aA;obtain⟨rfl,bJ⟩:=az (by omega);have e9:=ar E bp;unfold aK at e9;have bh:=bo.u;rw[TP rfl,TP rfl,T2 bp,gv,TP bT] at bh;have CG:=aB (B8 y.cs[E] S t L (W.heap.size+1+1) (W.heap.size+1) be oe ce J aY aR G wr K.u.rw c2 ad (by omega) bk.u hS bu (by have:=K.u.rw.row.lt;omega) cq (by omega) c6);unfold aK at CG;have aZ:=aB bh;have b8:=aB (Fit.xv (ef:=t) (c:=y.cs[E]) bk.u bu);have cl:=ET t G y.cs[E];have bW:(ia t G y.cs[E]).aH.length<=X.aH.length+(E+1):=by omega
        clear az ar F ad U ab bh cl;generalize ia t G y.cs[E]=X3 at*;generalize y.cs[E]=cz at*;go_wp2_with (first|(go_at_call 49;refine CG.u.mono ?_;rintro e w7 ⟨⟨ev,rfl⟩,a0,bg,bv,al,bb⟩;have br:Hid (nT W1 (.slice J t.length ce) (W.heap.size+1) sb nb r.length (λq=>if q=kk then true else D q) X3 y a0 bg w7):=aB ⟨bv,K.u.st.kept bb (by decide) (by decide) (by decide),K.u.bU.trans al,K.u.nd.kept bb (by decide) (by decide) (by decide)⟩;clear bv al bb)|fail)
        first
         |exact⟨⟨E+1,X3,a0,bg,by go_num,by omega,br,b8,bW,aB (by first|exact aZ.u|(rw [TP rfl,TP rfl];exact aZ.u))⟩,by simp only[aS];omega⟩
         |(go_roundw;exact⟨E+1,X3,a0,bg,by go_num,by omega,br,b8,bW,aB (by first|exact aZ.u|(rw [TP rfl,TP rfl];exact aZ.u))⟩;simp only[aS];omega)
       ·have bz:(if s=true then gv t y.cs X else X)=G:=by
         rw[bo.u];cases s with
         |false=>rfl
         |true=>
          rw[TP rfl];by_cases C:E<y.cs.length
          ·exact Gu t _ G λe=>hc ⟨C,rfl,e⟩
          ·rw[U_ (by omega)];rfl
        have ao:Hid (A4 W W1 t o B S (.slice J t.length ce) (W.heap.size+1) sb r.length fin (p+1) (λq=>if q=kk then s else D q) G aY aR wr):=aB ⟨K.u.rw,K.u.st,K.u.bU,bk.u,by rw[co];omega,by rw[<-bz];exact bI.u⟩;clear bz;have a6:¬(E:Int)<(y.cs.length:Int)\/((E:Int)<(y.cs.length:Int)/\s=false)\/((E:Int)<(y.cs.length:Int)/\s=true/\(G.exit==0)=false):=by
         by_cases C:E<y.cs.length
         ·cases s with|false=>exact .inr (.inl ⟨by omega,rfl⟩)|true=>exact .inr (.inr ⟨by omega,rfl,by rw[TQ];exact λe=>hc ⟨C,rfl,e⟩⟩)
         ·exact .inl (by omega)
        clear hc;rcases a6 with t1|⟨t1,rfl⟩|⟨t1,rfl,t2⟩
        ·go_wp2_with fail
         first
          |exact⟨⟨p+1,_,_,_,_,by go_num,by omega,ao⟩,by simp only[aS];omega⟩
          |(go_roundw;exact⟨p+1,_,_,_,_,by go_num,by omega,ao⟩;simp only[aS];omega)
        ·go_wp2_with fail
         first
          |exact⟨⟨p+1,_,_,_,_,by go_num,by omega,ao⟩,by simp only[aS];omega⟩
          |(go_roundw;exact⟨p+1,_,_,_,_,by go_num,by omega,ao⟩;simp only[aS];omega)
        ·go_wp2_with fail
         first
          |exact⟨⟨p+1,_,_,_,_,by go_num,by omega,ao⟩,by simp only[aS];omega⟩
          |(go_roundw;exact⟨p+1,_,_,_,_,by go_num,by omega,ao⟩;simp only[aS];omega)
  ·have cH:fin=X:=by
    have C:=H.u.go;by_cases R:p<o.aW.length
    ·have h3:p<(o.aW.zip B).length:=by rw[aaQ,aM.u];omega
     rw[T2 h3,mx,TJ (λe=>O ⟨R,e⟩)] at C;exact C.symm
    ·rw[U_ (by rw[aaQ,aM.u];omega)] at C;exact C.symm
   subst cH;obtain⟨ac,Z,ap⟩:=H.u.rw.aH.shape;have aa:=H.u.rw;rw[ap] at aa;have CT:=aB (Cf _ _ _ _ ac fin.aH.length Z fin wr aa (by have:=H.u.IZ.len;omega));have ct:=aB U;have c7:=aB aa.aH;have ch:=aB ab;have dm:W.heap.size+1<wr.heap.size:=aa.row.lt;clear F ad U ab bl bf aa V;have a6:¬(p:Int)<(o.aW.length:Int)\/((p:Int)<(o.aW.length:Int)/\(fin.exit==0)=false):=by
    by_cases R:p<o.aW.length
    ·exact .inr ⟨by omega,by rw[TQ];exact λe=>O ⟨R,e⟩⟩
    ·exact .inl (by omega)
   clear O;rcases a6 with ti|⟨ti,te⟩;all_goals
    go_wp2_with (first|(go_at_call 50;refine CT.u.mono ?_;rintro e w5 ⟨⟨vr,rfl,bc⟩,ak⟩;obtain⟨av,cv,gv,cL,-⟩:=bc.rd;subst cL;have T:=ct.u.aE ak;have cV:=aB (Ra (W:=W) (ch.u.trans (ak.mono (by omega))) (gj.aE c7.u ak) bc (by omega) (by omega));have r0:=T.cell 0 (by simp);have r1:=T.cell 1 (by simp);have r2:=T.cell 2 (by simp);have r3:=T.cell 3 (by simp);have f0:=T.frozen 0;have f1:=T.frozen 1;have f2:=T.frozen 2;have f3:=T.frozen 3;simp only[TG,TI] at r0 r1 r2 r3;have ci:=aB T;clear T bc ak)|fail)
    have hR:=(((ci.u.set 0 (.slice ac fin.aH.length Z)).set 1 (.slice av (eX fin.aX).length cv)).set 2 (.int .i64 fin.exit)).set 3 (.int .i64 fin.aP);have o0:=hR.cell 0 (by simp);have o1:=hR.cell 1 (by simp);have o2:=hR.cell 2 (by simp);have o3:=hR.cell 3 (by simp);simp only[VZ,VM,TG,TI] at o0 o1 o2 o3;refine Ua (v:= .agg #[.slice ac fin.aH.length Z,.slice av (eX fin.aX).length cv,.int .i64 fin.exit,.int .i64 fin.aP]) ?_ rfl cV.u;simp[results,results18,go_sem,o0,o1,o2,o3]
