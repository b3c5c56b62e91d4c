/- . -/
import Derived.Test.YtjelacjggijmfaaGreatDoorYGD1
import Derived.Deep.RegionHeldLaw
set_option maxHeartbeats 4000000
namespace Go.Proofs.YtjelacjggijmfaaGreatDoor
open Pl Mk Cp Proofs.Tryz
open RowKit MapKept ChangeMaps Maps
theorem Tryz.P_:(Tryz.prog.info? 202).map (λa=>(a.zero,a.size,a.bytes))=some (some (.agg #[.string ⟨#[]⟩,.int .i64 0]),2,24):=by kernel_rfl
def jH (rb:Nat->Nat):Option Nat->ay
 |none=> .pointer none
 |some a=>dh rb a
theorem Fp (x:ag)(n:Int):∀u∈[aK x,Value.int .i64 n],u.oneCell' =true:=by
 intro u a;simp only[Ue,Vl,Xm] at a;rcases a with e|e
 ·subst e;rfl
 ·subst e;rfl
structure BW (W0:ax) where
 val:ax
 ok:Below W0.heap.size W0 val
theorem BW.cell {b:ax}{a:Addr}{v:ay}(h:b.cell? a=some v)(p:BW b):p.val.cell? a=some v:=(p.ok.cell (p:=a) (U5 b _ h)).trans h
theorem yg {g:Program}{id:Nat}{Q:Exit->Act->ax->Prop}{a:Act}{w:ax}{f:List Oper}(d:ax)(k:Below d.heap.size d w.drew)(i:g.follows .mixedOrders=true)(l:Region.lexB .any f.toArray=true)(h:wpQuiet g f.toArray (λb=>∃e:BW d,b =e.val) (λj=>∀b,(∃e:BW d,b =e.val)->Q .normal j b) f a):(Code.region id f.toArray true).wp g Q a w:=wp_region_quiet (C:=λb=>∃e:BW d,b =e.val) i l ⟨⟨w.drew,k⟩,rfl⟩ (by simpa using h)
variable {b d e a:ay}
section
variable {W X:ax} {F G:dy} {c:Ad} {rb:Nat->Nat} {s:St}
theorem dz.Tg {a:Option Addr}{n cap:Nat}{f:List ag}(h:dz W F (.slice a n cap) f):n=f.length/\∃b d,0<f.length->a=some ⟨b,d,none⟩/\b<W.heap.size/\dV W b d f:=by
 rcases h with⟨i,g⟩|⟨b,d,c,i,g,l,j,k⟩
 ·cases i;subst g;exact⟨rfl,0,0,λe=>by simp at e⟩
 ·cases i;exact⟨rfl,b,d,λ_=>⟨rfl,g,j⟩⟩
theorem kE {b e B n size:Nat}{d:TypeId}{j g:List ay}{v:ay}(h:aG W b d j)(i:W.ownsRow B e size v n g)(f:d≠e):some b≠v.ownBlock:=λq=>by obtain⟨l,k,a⟩:=eN i b q.symm;unfold aG at h;rw[h] at a;cases a;exact f rfl
theorem He (h:bu W F c rb s){g:Nat}{f:Rl}(n:s.aD[g]?=some f)(i:aG W (rb g) 273 [d,e,b])(q:dz W F d f.tg)(p:dz W F e f.nd)(l:mK W F (.aH g) b f.cs){x:ag×Nat}{X:ax}(o:X.ownsRow 0 202 2 a (f.cs.length+1) (m_ f.cs++[aK x.1,.int .i64 (x.2:Int)]))(j:W.grownBy X b.ownBlock)(m:a.ownBlock=b.ownBlock\/a.ownBlock=some W.heap.size):
 aG X (rb g) 273 [d,e,b]/\∃k,bu (X.setCell ⟨rb g,2,none⟩ a) k c rb {s with aD:=s.aD.set g {f with cs:=f.cs++[x]}}/\Fr F k W (X.setCell ⟨rb g,2,none⟩ a):=
 ⟨i.grown j (kE i l.1 (by decide)),_,h.Sf n i q p l o j m⟩
theorem Kw (op:Option Nat)(ae:Ln)(h:bu W F c rb s)(ap:∀a,op=some a->a<s.aD.length)(aO:∀name,(s.of name).length<=1073741824)(aR:∀b∈s.aD,b.tg.length<=1073741824)(aS:∀b∈s.aD,b.cs.length<4294967296):
 Calls prog 136 #[.pointer (some ⟨c.rd,0,none⟩),jH rb op,dx ae] W λe W'=>e= .returned (.int .i64 ((fT s op ae).1:Int))/\∃F',bu W' F' c rb (fT s op ae).2/\Fr F F' W W' :=by
 obtain⟨i,q,L,g⟩:=ae;have S:=(TF W.heap.size W).alloc ak (.cells #[.int .i64 i,.int .i64 q,.string ⟨L.toArray⟩,.string ⟨g.toArray⟩] 164);cases op with
 |none=>
  have HR:=aB (h.aE S);have HF:=aB (Fr.aE (F:=F) S);have t:fT s none ⟨i,q,L,g⟩=(1,s):=rfl;rw[t];clear h ap t S;go_enter aaE,aad;unfold dx jH;go_wp2_with fail
  go_ret;exact⟨rfl,F,HR.u,HF.u⟩
 |some a=>
  obtain⟨i0,av,az,ay,aJ⟩:=UF Tryz.P_;have hi:=ap a rfl;have hr:=TH hi;have hm:=TV hi;have aN :=aR _ hm;have aY :=aS _ hm;have t:fT s (some a) ⟨i,q,L,g⟩=if s.aD[a].cs.length=0/\(s.aD[a].tg.any λQ=>(s.of Q).any (kh s))=true then(6,s) else(0,{s with aD:=s.aD.set a {s.aD[a] with cs:=s.aD[a].cs++[(g,i)]}}):=by unfold fT;simp only[hr]
  generalize s.aD[a]=b at*;obtain⟨vt,vn,vc,o,z,N,H⟩:=h.aD a b hr;obtain⟨C,cap,aP⟩:=gL H.1;obtain⟨K,O,aM⟩:=z.rP.sh;subst aP aM;have l1:c.rd<W.heap.size:=h.row.lt;have l2:rb a<W.heap.size:=o.lt;have e0:=o.cell? (i:=0) rfl;have e2:=o.cell? (i:=2) rfl;have c1:=h.row.cell? (i:=1) rfl;obtain⟨vp,ll,aI⟩:=h.gp aO;obtain⟨-,tb,tO,P⟩:=z.Tg;have CH:Hid (∀w,Below W.heap.size W w->Calls prog 181 #[.pointer (some ⟨c.bb,0,none⟩),.slice K b.tg.length O] w λe w'=>e= .returned (.bool (b.tg.any λQ=>(s.of Q).any (kh s)))/\Below w.heap.size w w'):=λw d=>by rw[<-h.any b.tg];exact Jh b.tg K O tb tO (aI.aE d) (λe=>⟨(P e).1,T7 (P e).2.1 d.size,(P e).2.2.aL d (P e).2.1⟩) aN
  have v:Hid (∀w,Below W.heap.size W w->bu w F c rb s/\Fr F F W w/\aG w (rb a) 273 [.slice K b.tg.length O,vn,.slice C b.cs.length cap]/\dz w F (.slice K b.tg.length O) b.tg/\dz w F vn b.nd/\mK w F (.aH a) (.slice C b.cs.length cap) b.cs):=λw d=>by
   have h' :=h.aE d;refine⟨h',Fr.aE d,o.aE d,?_,?_,?_⟩
   ·exact z.same d.size (λk hk e=>⟨d.block k hk,e⟩)
   ·exact N.same d.size (λk hk e=>⟨d.block k hk,e⟩)
   ·exact H.same (λk e=>⟨d.block k (h.lt e),e⟩)
  clear aI P o z N H;generalize (b.tg.any λQ=>(s.of Q).any (kh s))=qb at*;have aA:=aB S;have HH:=aB h;clear h ap S;have rL:=aG.bA W 164 [.int .i64 i,.int .i64 q,.string ⟨L.toArray⟩,.string ⟨g.toArray⟩];obtain⟨l,ad⟩:∃l,l=W.alloc (.cells #[.int .i64 i,.int .i64 q,.string ⟨L.toArray⟩,.string ⟨g.toArray⟩] 164):=⟨_,rfl⟩;have aw:aG l W.heap.size 164 [.int .i64 i,.int .i64 q,.string ⟨L.toArray⟩,.string ⟨g.toArray⟩]:=by rw[ad];exact rL
  have J:Below W.heap.size W l:=by rw[ad];exact aA.u
  have g0:∀j:BW l,j.val.cell? ⟨rb a,0,none⟩=some (.slice K b.tg.length O):=BW.cell ((J.cell (p:=⟨rb a,0,none⟩) l2).trans e0);have g2:∀j:BW l,j.val.cell? ⟨rb a,2,none⟩=some (.slice C b.cs.length cap):=BW.cell ((J.cell (p:=⟨rb a,2,none⟩) l2).trans e2);have g1:∀j:BW l,j.val.cell? ⟨c.rd,1,none⟩=some (.pointer (some ⟨c.bb,0,none⟩)):=BW.cell ((J.cell (p:=⟨c.rd,1,none⟩) l1).trans c1);have aC:∀j:BW l,Calls prog 181 #[.pointer (some ⟨c.bb,0,none⟩),.slice K b.tg.length O] j.val λe aq=>e= .returned (.bool qb)/\∃p' :BW l,aq =p'.val:=λj=>(CH.u j.val (J.tr j.ok)).mono (λe aq ⟨h1,h2⟩=>⟨h1,⟨aq,j.ok.tr h2⟩,rfl⟩);have M:=aB aC;have aU:Nonempty (BW l):=⟨⟨l,TF _ _⟩⟩;have ar:=aB ad;have aj:=aB J;have aF:=aB aw;clear aC ad J aw rL e0 e2 c1 CH aA;by_cases T:b.cs.length=0
  ·have tz:(((b.cs.length:Nat):Int)==0)=true:=by rw[UR];omega
   cases qb with
   |true=>
    have y:Hid (fT s (some a) ⟨i,q,L,g⟩=(6,s)):=by show _=_;rw[t,TP ⟨T,rfl⟩]
    clear t T;go_enter aaE,aad;unfold dx jH dh;go_upto_region 3 with fail
    rw[<-ar.u];refine yg l (TF _ l).drew (by kernel_rfl) (by kernel_rfl) ?_
    repeat (first|go_big_quiet_skip|quiet_step (exact M.u _))
    refine wpQuiet_nil ?_;rintro _ ⟨j,rfl⟩;obtain⟨w,d⟩:=j;obtain⟨m,f,-⟩:=v.u w (aj.u.tr d);have HM:=aB m;have HF:=aB f;simp only;clear m f d g0 g1 g2 M aU v;go_wp2_with fail
    go_ret;exact⟨by rw[y.u];rfl,F,by rw[y.u];exact HM.u,HF.u⟩
   |false=>
    have y:Hid (fT s (some a) ⟨i,q,L,g⟩=(0,{s with aD:=s.aD.set a {b with cs:=b.cs++[(g,i)]}})):=by show _=_;rw[t,TJ (by simp)]
    clear t T;go_enter aaE,aad;unfold dx jH dh;go_upto_region 3 with fail
    rw[<-ar.u];refine yg l (TF _ l).drew (by kernel_rfl) (by kernel_rfl) ?_
    repeat (first|go_big_quiet_skip|quiet_step (exact M.u _))
    refine wpQuiet_nil ?_;rintro _ ⟨j,rfl⟩;obtain⟨w,d⟩:=j;have r:=aj.u.tr d;have n:=aF.u.aE d;have k0:=n.cell? (i:=0) rfl;have k3:=n.cell? (i:=3) rfl;have aV:=n.lt;have l3:rb a<w.heap.size:=T7 l2 r.size;obtain⟨m,f,o,z,N,H⟩:=v.u w r;have y2:=o.cell? (i:=2) rfl;have p:Below w.heap.size w (w.drew.alloc (.cells #[.string ⟨g.toArray⟩,.int .i64 (i:Int)] 202)):=((TF w.heap.size w).drew).alloc ak _;obtain⟨mY,Y,ab,V,U,B⟩:=v.u _ (r.tr p);have ag:=aB mY;have al:=aB Y;have ah:=aB ab;have ao:=aB V;have au:=aB U;have aa:=aB B;have ai:=aB (n.aE p);have af:Hid ((Value.slice C b.cs.length cap).ownBlock≠some W.heap.size):=λe=>kE (n.aE p) B.1 (by decide) e.symm;have aT:rb a≠W.heap.size:=by omega
    have an:=aB (aG.bA w.drew 202 [.string ⟨g.toArray⟩,.int .i64 (i:Int)]);simp only;clear m f o z N H mY Y ab V U B n p r d g0 g1 g2 M aU v;go_wp2_with fail
    go_region_law (first|(refine pS rfl (.tmp 30) (.tmp 36) 195 rfl 0 202 i0 _ 2 24 underlying195 av az ay aJ rfl (by decide) (.slice C b.cs.length cap) b.cs.length (m_ b.cs) (by rfl) aa.u.1 ⟨w.heap.size,0,none⟩ 1 1 [aK g,.int .i64 (i:Int)] (by rfl) (by rfl) (λaX u hj=>by rw[ji];exact an.u.cell? hj) (Fp g i) (by unfold maxLen;omega) (by omega) (TS _) ?_;intro v6 w6 A D Z;obtain⟨a6,c6,rfl⟩:=gL A;obtain⟨E,R⟩:=He (x:=(g,i)) ag.u hr ah.u ao.u au.u aa.u A D Z;have y6:=E.cell? (i:=2) rfl;have I:=ai.u.grown D (λe=>af.u e.symm);have aQ:=I.cell? (i:=0) rfl;have aW:=I.cell? (i:=3) rfl;have z6:=E.frozen 2;have am:=aB R;clear R A D Z E I)|fail)
    all_goals go_wp2_with fail
    all_goals go_ret
    all_goals(obtain ⟨G6,m6,f6⟩:=am.u;exact⟨by rw[y.u];rfl,G6,by rw[y.u];exact m6,al.u.trans f6⟩)
  ·have tz:(((b.cs.length:Nat):Int)==0)=false:=by rw[TQ];omega
   have y:Hid (fT s (some a) ⟨i,q,L,g⟩=(0,{s with aD:=s.aD.set a {b with cs:=b.cs++[(g,i)]}})):=by show _=_;rw[t,TJ (λe=>T e.1)]
   clear t T;go_enter aaE,aad;unfold dx jH dh;go_upto_region 3 with fail
   rw[<-ar.u];refine yg l (TF _ l).drew (by kernel_rfl) (by kernel_rfl) ?_
   repeat (first|go_big_quiet_skip|quiet_step (exact M.u _))
   refine wpQuiet_nil ?_;rintro _ ⟨j,rfl⟩;obtain⟨w,d⟩:=j;have r:=aj.u.tr d;have n:=aF.u.aE d;have k0:=n.cell? (i:=0) rfl;have k3:=n.cell? (i:=3) rfl;have aV:=n.lt;have l3:rb a<w.heap.size:=T7 l2 r.size;obtain⟨m,f,o,z,N,H⟩:=v.u w r;have y2:=o.cell? (i:=2) rfl;have p:Below w.heap.size w (w.drew.alloc (.cells #[.string ⟨g.toArray⟩,.int .i64 (i:Int)] 202)):=((TF w.heap.size w).drew).alloc ak _;obtain⟨mY,Y,ab,V,U,B⟩:=v.u _ (r.tr p);have ag:=aB mY;have al:=aB Y;have ah:=aB ab;have ao:=aB V;have au:=aB U;have aa:=aB B;have ai:=aB (n.aE p);have af:Hid ((Value.slice C b.cs.length cap).ownBlock≠some W.heap.size):=λe=>kE (n.aE p) B.1 (by decide) e.symm;have aT:rb a≠W.heap.size:=by omega
   have an:=aB (aG.bA w.drew 202 [.string ⟨g.toArray⟩,.int .i64 (i:Int)]);simp only;clear m f o z N H mY Y ab V U B n p r d g0 g1 g2 M aU v;go_wp2_with fail
   go_region_law (first|(refine pS rfl (.tmp 30) (.tmp 36) 195 rfl 0 202 i0 _ 2 24 underlying195 av az ay aJ rfl (by decide) (.slice C b.cs.length cap) b.cs.length (m_ b.cs) (by rfl) aa.u.1 ⟨w.heap.size,0,none⟩ 1 1 [aK g,.int .i64 (i:Int)] (by rfl) (by rfl) (λaX u hj=>by rw[ji];exact an.u.cell? hj) (Fp g i) (by unfold maxLen;omega) (by omega) (TS _) ?_;intro v6 w6 A D Z;obtain⟨a6,c6,rfl⟩:=gL A;obtain⟨E,R⟩:=He (x:=(g,i)) ag.u hr ah.u ao.u au.u aa.u A D Z;have y6:=E.cell? (i:=2) rfl;have I:=ai.u.grown D (λe=>af.u e.symm);have aQ:=I.cell? (i:=0) rfl;have aW:=I.cell? (i:=3) rfl;have z6:=E.frozen 2;have am:=aB R;clear R A D Z E I)|fail)
   all_goals go_wp2_with fail
   all_goals go_ret
   all_goals(obtain ⟨G6,m6,f6⟩:=am.u;exact⟨by rw[y.u];rfl,G6,by rw[y.u];exact m6,al.u.trans f6⟩)
end
