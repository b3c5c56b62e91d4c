/- . -/
import Derived.Test.YtjelacjggijmfaaGreatDoorYGD3
import Derived.Test.YtjelacjggijmfaaGreatDoorYEX2
set_option maxHeartbeats 4000000
set_option maxRecDepth 100000
namespace Go.Proofs.YtjelacjggijmfaaGreatDoor
open Pl Mk Cp Proofs.Tryz
open RowKit MapKept ChangeMaps Maps
theorem Dm:∀{a b:List ag},(a.map λd=>(⟨d.toArray⟩:az))=b.map (λd=>(⟨d.toArray⟩:az))->a=b
 |[],[],_=>rfl|[],_::_,h=>by cases h
 |_::_,[],h=>by cases h
 |x::a,y::b,h=>by simp only[Ug,List.cons.injEq,ByteArray.mk.injEq] at h;rw[Dm h.2];have:=TU Array.toList h.1;simp only at this;rw[this]
theorem LI (g d:List ag)(l n u j m t:Nat)(w:ax)(z:dV w l n g)(y:dV w j m d)(C:g.length<=1073741824)(D:d.length<=1073741824):
 Calls prog 228 #[.slice (some ⟨l,n,none⟩) g.length u,.slice (some ⟨j,m,none⟩) d.length t] w λe r=>e= .returned (.bool (decide (g=d)))/\Below w.heap.size w r :=by
 have v:∀(b o:Nat) (i:List ag),dV w b o i->∀h,h<(i.map λa=>(⟨a.toArray⟩:az)).length->w.cell? ⟨b,o+h,none⟩=some (.string ((i.map λa=>(⟨a.toArray⟩:az)).getD h ByteArray.empty)):=λb o i x h p=>by rw[TR] at p;rw[x h i[h] (TH p)];simp[aK,p]
 refine(Any.slices_Equal_string Tryz.Rq l n g.length u j m d.length t (g.map λa=>⟨a.toArray⟩) (d.map λa=>⟨a.toArray⟩) w (by simp) (by simp) (by omega) (by omega) (v l n g z) (v j m d y)).mono ?_;rintro e r ⟨rfl,q,rfl⟩;refine⟨?_,below_drewN w q⟩;have A:(g.map λa=>(⟨a.toArray⟩:az)).take g.length=g.map λa=>⟨a.toArray⟩:=by rw[<-TR (f:=λa=>(⟨a.toArray⟩:az)),Us]
 have B:(d.map λa=>(⟨a.toArray⟩:az)).take d.length=d.map λa=>⟨a.toArray⟩:=by rw[<-TR (f:=λa=>(⟨a.toArray⟩:az)),Us]
 rw[A,B];congr 2;rw[Xn];exact⟨Dm,λe=>by rw[e]⟩
variable {d f:List ag}{a:ax}{b e:ay}
section
variable {W X:ax} {F G:dy} {c:Ad} {rb:Nat->Nat} {s:St}
theorem JA (j h t l:Nat)(r p:ay)(a:List ag)(x:ag)(b:a[0]?=some x)(g:aG W j 273 [.slice (some ⟨l,h,none⟩) a.length t,r,p])(f:dV W l h a)(d:c_ W)(q:x.length<=4294967200):
 Calls prog 231 #[.pointer (some ⟨j,0,none⟩)] W λe n=>e= .returned (.bool (cS x))/\n =W:=by
 have B:=g.cell? (i:=0) rfl;have m:=f 0 x b;unfold aK at m;rw[Ve] at m;have z:0<a.length:=(TZ.1 b).1;have y:(0:Int)<(a.length:Int):=by omega
 have v:=aB (BF x W d q);clear g f d b;go_enter func231,ntmps231;go_wp2_with (first|(go_at_call 227;refine v.u.mono ?_;rintro e A ⟨rfl,rfl⟩)|fail)
 go_ret;exact⟨rfl,rfl⟩
theorem dz.AI {v:ay}{B:Nat}(h:X.ownsRow B 9 1 v d.length (d.map aK))(m:∀k,B<=k->k<X.heap.size->F k=none):dz X F v d:=by
 rcases h.2 with⟨a,b⟩|⟨e,cap,n,a,b,i,l⟩
 ·exact .inl ⟨a,Vp b⟩
 ·have g:=(TN.1 i).1;refine .inr ⟨e,0,cap,a,g,m e b g,λp x f=> ?_,⟨n,_,i⟩,l.1⟩;rw[a] at h;have j:=(TZ.1 f).1;have:=kI h p (by rw[TR];exact j);rw[Ur,this,Ut,(TZ.1 f).2]
theorem bu.out (h:bu W F c rb s){k:Nat}(a:W.heap.size<=k):F k=none:=by
 cases e:F k with
 |none=>rfl|some b=>have:=h.lt e;omega
theorem dz.Tl {a:Option Addr}{n cap:Nat}(h:dz W F (.slice a n cap) d):∃b o,0<d.length->a=some ⟨b,o,none⟩/\dV W b o d/\∃i m,W.heap[b]?=some (Obj.cells i 9 m):=by
 rcases h with⟨g,f⟩|⟨b,o,c,g,f,p,l,j⟩
 ·subst f;exact⟨0,0,λe=>by simp at e⟩
 ·cases g;exact⟨b,o,λ_=>⟨rfl,l,j.1⟩⟩
theorem bu.GS (h:bu W F c rb s){v:ay}(p:dz W F b f)(m:Below W.heap.size W a)(n:a.ownsRow W.heap.size 9 1 v d.length (d.map aK)):
 bu (a.alloc (.cells #[b,v,.slice none 0 0] 273)) (F.put a.heap.size (.jz s.aD.length)) c (ku rb s.aD.length a.heap.size) {s with aD:=s.aD++[⟨f,d,[]⟩]}/\Fr F (F.put a.heap.size (.jz s.aD.length)) W (a.alloc (.cells #[b,v,.slice none 0 0] 273)):=by
 have l:=m.size;have i:Below W.heap.size W (a.alloc (.cells #[b,v,.slice none 0 0] 273)):=m.alloc l _;have j:=(TF a.heap.size a).alloc ak (.cells #[b,v,.slice none 0 0] 273);refine h.Q' i l (aG.bA a 273 [b,v,.slice none 0 0]) ?_ ?_
 ·exact p.same i.size (λk g e=>⟨i.block k g,by unfold dy.put;rw[TJ (by omega)];exact e⟩)
 ·refine dz.same (F:=F) (W:=a) ?_ j.size (λk g e=>⟨j.block k g,by unfold dy.put;rw[TJ (by omega)];exact e⟩);exact dz.AI n (λk g _=>h.out g)
theorem QJ (h:bu W F c rb s){i:Nat}(l:i<s.aD.length)(a:jh W c.bb c.nm c.bt c.pb b s.first)(f:gO W F .bD b rb s.bD)(j:X.ownsRow 0 265 1 e (s.bD.length+1) (s.bD.map (dh rb)++[dh rb i]))(d:W.grownBy X b.ownBlock)(g:e.ownBlock=b.ownBlock\/e.ownBlock=some W.heap.size):
 jh X c.bb c.nm c.bt c.pb b s.first/\∃G,bu (X.setCell ⟨c.bb,1,none⟩ e) G c rb {s with bD:=s.bD++[i]}/\Fr F G W (X.setCell ⟨c.bb,1,none⟩ e):=
 ⟨aG.grown a d (kE a f.1 (by decide)),_,h.Sc l a f j d g⟩
theorem bu.P8 (h:bu W F c rb s){v:ay}(B:dz W F b f)(z:Below W.heap.size W a)(A:a.ownsRow W.heap.size 9 1 v d.length (d.map aK)):
 ∃g,(a.alloc (.cells #[b,v,.slice none 0 0] 273)).cell? ⟨c.bb,1,none⟩=some g/\
  ((a.alloc (.cells #[b,v,.slice none 0 0] 273)).alloc (.cells #[.pointer (some ⟨a.heap.size,0,none⟩)] 265)).ownsRow 0 265 1 g s.bD.length (s.bD.map (dh (ku rb s.aD.length a.heap.size)))/\
  aG ((a.alloc (.cells #[b,v,.slice none 0 0] 273)).alloc (.cells #[.pointer (some ⟨a.heap.size,0,none⟩)] 265)) (a.heap.size+1) 265 [.pointer (some ⟨a.heap.size,0,none⟩)]/\
  ∀v6 j,j.ownsRow 0 265 1 v6 (s.bD.length+1) (s.bD.map (dh (ku rb s.aD.length a.heap.size))++[.pointer (some ⟨a.heap.size,0,none⟩)])->((a.alloc (.cells #[b,v,.slice none 0 0] 273)).alloc (.cells #[.pointer (some ⟨a.heap.size,0,none⟩)] 265)).grownBy j g.ownBlock->
   (v6.ownBlock=g.ownBlock\/v6.ownBlock=some ((a.alloc (.cells #[b,v,.slice none 0 0] 273)).alloc (.cells #[.pointer (some ⟨a.heap.size,0,none⟩)] 265)).heap.size)->
   j.cell? ⟨c.bb,1,none⟩=some g/\j.frozen? ⟨c.bb,1,none⟩=false/\∃G,bu (j.setCell ⟨c.bb,1,none⟩ v6) G c (ku rb s.aD.length a.heap.size) {s with aD:=s.aD++[⟨f,d,[]⟩],bD:=s.bD++[s.aD.length]}/\Fr F G W (j.setCell ⟨c.bb,1,none⟩ v6):=by
 obtain⟨m,E⟩:=h.GS B z A;obtain⟨g,t,D⟩:=m.cV;have l:=(TF (a.alloc (.cells #[b,v,.slice none 0 0] 273)).heap.size (a.alloc (.cells #[b,v,.slice none 0 0] 273))).alloc ak (.cells #[.pointer (some ⟨a.heap.size,0,none⟩)] 265);have p:=D.aE l (λk e=>m.lt e);have u:=aG.aE t l;have q:=aG.bA (a.alloc (.cells #[b,v,.slice none 0 0] 273)) 265 [.pointer (some ⟨a.heap.size,0,none⟩)];rw[TM] at q;have C:dh (ku rb s.aD.length a.heap.size) s.aD.length= .pointer (some ⟨a.heap.size,0,none⟩):=by unfold dh ku;rw[TP rfl]
 refine⟨g,aG.cell? (i:=1) t rfl,p.1,q,λv6 j r y H=> ?_⟩;rw[<-C] at r;obtain⟨n,G,I,x⟩:=QJ (i:=s.aD.length) (m.aE l) (by simp) u p r y H;exact⟨aG.cell? (i:=1) n rfl,aG.frozen n 1,G,I,(E.trans (Fr.aE l)).trans x⟩
theorem Qa (a b:List ag)(vt vn:ay)(h:bu W F c rb s)(I:dz W F vt a)(Q:dz W F vn b)(S:a≠[])(hg:c_ W)(a1:a.length<=2000)(a2:b.length<=2000)(aw:∀x∈a,x.length<=2000)(a7:s.ph.length<=1000000)(a5:s.tl<=1000000)(aT:∀n,(s.of n).length<=s.tl)(a4:s.bD.length<=1000000):
 Calls prog 184 #[.pointer (some ⟨c.bb,0,none⟩),vt,vn] W λe N=>∃G rb',e= .returned (jH rb' (bp s a b).1)/\bu N G c rb' (bp s a b).2/\Fr F G W N :=by
 obtain⟨i0,aQ,aH,aV,aY⟩:=UF Tryz.Gt;rcases I with⟨-,q⟩|⟨t,z,y,rfl,ad,aW,g,ac⟩
 ·exact absurd q S
 have I:dz W F (.slice (some ⟨t,z,none⟩) a.length y) a:= .inr ⟨t,z,y,rfl,ad,aW,g,ac⟩;obtain⟨B,D,rfl⟩:=Q.rP.sh;have O:=(TF W.heap.size W).alloc ak (.cells #[.string ⟨#[46,80,72,79,78,89]⟩] 9);have r1:dV (W.alloc (.cells #[.string ⟨#[46,80,72,79,78,89]⟩] 9)) W.heap.size 0 [ra]:=λH x A=>by have:=(aG.bA W 9 [.string ⟨#[46,80,72,79,78,89]⟩]).cell? (i:=H) (v:=aK x) (by cases H with|zero=>(cases A;rfl)|succ H=>cases A);rw[Ur];exact this
 have p:=aB (LI a [ra] t z y W.heap.size 0 1 (W.alloc (.cells #[.string ⟨#[46,80,72,79,78,89]⟩] 9)) (g.aL O ad) r1 (by omega) (by simp));have af:0<a.length:=Uy.2 S;by_cases L:a=[ra]
 ·rw[Uz L] at p;have R:bp s a b=(none,{s with ph:=b.foldl j_ s.ph}):=by unfold bp;rw[TP L]
  rw[R];have CP:Hid (∀w,Below W.heap.size W w->Calls prog 229 #[.pointer (some ⟨c.bb,0,none⟩),.slice B b.length D] w λe r=>e= .returned (.tuple #[])/\bu r F c rb {s with ph:=b.foldl j_ s.ph}/\Fr F F W r):=λw C=>by have h' :=h.aE C;obtain⟨vp,hB,-⟩:=h'.cV;obtain⟨nb,no,a0⟩:=(Q.aE C).Tl;refine(Ke c.bb c.nm c.bt c.pb vp s.first s.ph b B D nb no w hB h'.jt a0 (by omega)).mono ?_;rintro e w1 ⟨rfl,aJ,aM⟩;obtain⟨m,f⟩:=h'.PO aM aJ;exact⟨rfl,m,(Fr.aE C).trans f⟩
  have aa:=aB O;clear h I Q g ac r1 O R L S hg;go_enter func184,ntmps184;go_wp2_with (first|(go_at_call 228;refine p.u.mono ?_;clear p;rintro e w1 ⟨rfl,j⟩;have K:=aB (aa.u.tr j);clear j)|(go_at_call 229;refine(CP.u _ K.u).mono ?_;clear CP;rintro e w2 ⟨rfl,ai,al⟩;have aX:=aB ai;have aR:=aB al;clear ai al)|fail)
  go_ret;exact⟨F,rb,rfl,aX.u,aR.u⟩
 ·rw[UA L] at p;have T:Hid (∀w,Below W.heap.size W w->Calls prog 230 #[.slice (some ⟨w.heap.size,0,none⟩) 1 1] (w.alloc (.cells #[.slice B b.length D] 30)) λe r=>∃v,e= .returned v/\r.ownsRow W.heap.size 9 1 v (bJ b []).length ((bJ b []).map aK)/\Below W.heap.size W r):=λw C=>by
   have b2:=(TF w.heap.size w).alloc ak (.cells #[.slice B b.length D] 30);have aj:[b].flatten=b:=by simp
   have hC:=zH [b] (some ⟨w.heap.size,0,none⟩) 1 w.heap.size 0 (w.alloc (.cells #[.slice B b.length D] 30)) (λ_=>⟨rfl,by simp,λH x A=> ?_⟩) (by simp) (by rw[aj];omega)
   ·rw[aj] at hC;refine hC.mono ?_;rintro e r ⟨v,rfl,J,l⟩;have hs:=C.size;have e1:=TM w (.cells #[.slice B b.length D] 30);exact⟨v,rfl,F4 J (by omega),((C.trans (b2.mono hs)).trans (l.mono (by omega)))⟩
   ·cases H with
    |zero=>cases A;exact⟨_,(aG.bA w 30 [.slice B b.length D]).cell? (i:=0) rfl,((Q.aE C).aE b2).rP⟩
    |succ H=>cases A
  have HP:=aB (λd v (l:Below W.heap.size W d) (J:d.ownsRow W.heap.size 9 1 v (bJ b []).length ((bJ b []).map aK))=>h.P8 I l J);have CX:Hid (∀d v,Below W.heap.size W d->d.ownsRow W.heap.size 9 1 v (bJ b []).length ((bJ b []).map aK)->Calls prog 232 #[.pointer (some ⟨c.bb,0,none⟩),.pointer (some ⟨d.heap.size,0,none⟩)] (d.alloc (.cells #[.slice (some ⟨t,z,none⟩) a.length y,v,.slice none 0 0] 273)) λe N=>e= .returned (.tuple #[])/\∃G,bu N G c (ku rb s.aD.length d.heap.size) (lu {s with aD:=s.aD++[⟨a,bJ b [],[]⟩]} a s.aD.length)/\Fr F G W N):=λd v l J=>by
   obtain⟨m1,f1⟩:=h.GS I l J;have e1:dh (ku rb s.aD.length d.heap.size) s.aD.length= .pointer (some ⟨d.heap.size,0,none⟩):=by unfold dh ku;rw[TP rfl]
   rw[<-e1];refine(JU s.aD.length ⟨a,bJ b [],[]⟩ m1 (by simp) S (by simp only;omega) aT).mono ?_;rintro e w5 ⟨rfl,G,U,V⟩;exact⟨rfl,G,U,f1.trans V⟩
  have aa:=aB O;have av:=TH af;have am:a.headD []=a[0]:=zc _ af;have R:bp s a b=if cS a[0]=true then(some s.aD.length,{s with aD:=s.aD++[⟨a,bJ b [],[]⟩],bD:=s.bD++[s.aD.length]}) else(some s.aD.length,lu {s with aD:=s.aD++[⟨a,bJ b [],[]⟩]} a s.aD.length):=by unfold bp;rw[TJ L,am]
  rw[R];have Z:Hid (∀d v,Below W.heap.size W d->Calls prog 231 #[.pointer (some ⟨d.heap.size,0,none⟩)] (d.alloc (.cells #[.slice (some ⟨t,z,none⟩) a.length y,v,.slice none 0 0] 273)) λe r=>e= .returned (.bool (cS a[0]))/\r =(d.alloc (.cells #[.slice (some ⟨t,z,none⟩) a.length y,v,.slice none 0 0] 273))):=λd v l=>by have ao:=l.alloc l.size (.cells #[.slice (some ⟨t,z,none⟩) a.length y,v,.slice none 0 0] 273);exact JA d.heap.size z y t v (.slice none 0 0) a a[0] av (aG.bA d 273 [_,_,_]) (g.aL ao ad) (hg.aE ao) (by have:=aw _ (TV af);omega)
  clear h I Q g ac r1 O R av am;generalize cS a[0]=pb at*;cases pb with
  |true=>
   rw[TP rfl];go_enter func184,ntmps184;go_wp2_with (first|(go_at_call 228;refine p.u.mono ?_;clear p;rintro e w1 ⟨rfl,j⟩;have K:=aB (aa.u.tr j);clear j)|(go_at_call 230;refine(T.u _ K.u).mono ?_;clear T;rintro e d ⟨v3,rfl,E,g⟩;obtain⟨vp,p1,p2,p3,p4⟩:=HP.u d v3 g E;obtain⟨ap,cp,aN⟩:=gL p2;have aS:=aB p2;have aF:=aB p3;have aA:=aB p4;have P:=aB (Z.u d v3 g);obtain⟨a3,c3,ab⟩:=gL E;subst aN ab;clear E g Z p2 p3 p4)|(go_at_call 231;refine P.u.mono ?_;clear P;rintro e w4 ⟨rfl,rfl⟩)|(at_builtin;refine Uu _ rfl (.tmp 26) (.tmp 28) 138 rfl 0 265 i0 (.pointer none) 1 8 ZH aQ aH aV aY rfl (by decide) _ s.bD.length _ rfl aS.u ⟨d.heap.size+1,0,none⟩ 1 1 [.pointer (some ⟨d.heap.size,0,none⟩)] rfl (by simp) (λH u A=>by rw[ji];exact aF.u.cell? A) (by intro u hu;rw[TL] at hu;subst hu;rfl) (by unfold maxLen;omega) (by omega) (TS _) ?_;intro v6 w6 ae ar _ au;obtain⟨a6,c6,rfl⟩:=gL ae;obtain⟨y1,y2,aq⟩:=aA.u _ w6 ae ar au;have az:=aB aq;clear aq ae ar au)|fail)
   go_ret;obtain⟨G6,m6,f6⟩:=az.u;exact⟨G6,_,by unfold jH dh ku;simp,m6,f6⟩
  |false=>
   rw[TJ (by simp)];go_enter func184,ntmps184;go_wp2_with (first|(go_at_call 228;refine p.u.mono ?_;clear p;rintro e w1 ⟨rfl,j⟩;have K:=aB (aa.u.tr j);clear j)|(go_at_call 230;refine(T.u _ K.u).mono ?_;clear T;rintro e d ⟨v3,rfl,E,g⟩;have ah:=aB (CX.u d v3 g E);have P:=aB (Z.u d v3 g);obtain⟨a3,c3,ab⟩:=gL E;subst ab;clear E g Z CX)|(go_at_call 231;refine P.u.mono ?_;clear P;rintro e w4 ⟨rfl,rfl⟩)|(go_at_call 232;refine ah.u.mono ?_;clear ah;rintro e w5 ⟨rfl,G5,U,V⟩;have aO:=aB U;have aC:=aB V;clear U V)|fail)
   go_ret;exact⟨G5,_,by unfold jH dh ku;simp,aO.u,aC.u⟩
end
theorem yp (a:ag)(w:ax)(l:a.length<=2000):
 Calls prog 166 #[.string ⟨a.toArray⟩] w λe g=>∃A,e= .returned (.slice (some ⟨A,0,none⟩) (bH a).length (bH a).length)/\
  g.ownsRow w.heap.size 9 1 (.slice (some ⟨A,0,none⟩) (bH a).length (bH a).length) (bH a).length ((bH a).map aK)/\Below w.heap.size w g :=by
 have f:=M0 ⟨a.toArray⟩ w (by show a.length<=_;omega);have i:=Jo ⟨a.toArray⟩;have d:(Lib.goFieldsP jb ⟨a.toArray⟩).map (·.data.toList)=bH a:=i;have h:(Lib.goFieldsP jb ⟨a.toArray⟩).length=(bH a).length:=by rw[<-d,TR]
 have j:(Lib.goFieldsP jb ⟨a.toArray⟩).map Value.string=(bH a).map aK:=by rw[<-d,WT];apply Xl;intro b _;show Value.string b=Value.string ⟨b.data.toList.toArray⟩;rw[Array.toArray_toList]
 rw[h,j] at f;exact f
section
variable {W X:ax} {F G:dy} {c:Ad} {rb:Nat->Nat} {s:St}
theorem bu.gh (h:bu W F c rb s):bu (W.setCell ⟨c.rd,2,none⟩ (.int .i64 ((s.n:Int)+1))) F c rb {s with n:=s.n+1}/\Fr F F W (W.setCell ⟨c.rd,2,none⟩ (.int .i64 ((s.n:Int)+1))):=by
 have a:((s.n+1:Nat):Int)=(s.n:Int)+1:=by omega
 have:=h.AK (n:=s.n+1) (inc:=s.inc) (opn:=s.opn) (Tn.set (p:=λk=>k=c.rd) W ⟨c.rd,2,none⟩ (.int .i64 ((s.n:Int)+1)) rfl) (by rw[a];exact h.row.set 2 _);exact this
theorem OF (ac:Ln)(k:Nat)(h:bu W F c rb s)(t:Ok s k)(hg:c_ W)(au:F 0=none)(hl:ac.left.length<=1073741824)(hr:ac.right.length<=1073741824):
 Calls prog 137 #[.pointer (some ⟨c.rd,0,none⟩),dx ac] W λe W'=>∃G rb',e= .returned (.tuple #[jH rb' (fW s ac).2.1,.int .i64 ((fW s ac).1:Int)])/\bu W' G c rb' (fW s ac).2.2/\Fr F G W W' :=by
 obtain⟨aZ,cC,L,J⟩:=ac;have hA:fW s ⟨aZ,cC,L,J⟩=if(dq s.aV L).er≠0 then((dq s.aV L).er,none,s)
  else if(dq s.aV J).er≠0 then((dq s.aV J).er,none,s)
  else if kp (bH (dq s.aV L).bE) (bH (dq s.aV J).bE)=false then(1,none,s)
  else if s.n=64 then(5,none,s)
  else(0,bp {s with n:=s.n+1} (bH (dq s.aV L).bE) (bH (dq s.aV J).bE)):=rfl
 rw[hA];have b0:=(TF W.heap.size W).alloc ak (.cells #[.int .i64 aZ,.int .i64 cC,.string ⟨L.toArray⟩,.string ⟨J.toArray⟩] 164);have CE:Hid (∀aT w,Below W.heap.size W w->aT.length<=1073741824->Calls prog 182 #[.pointer (some ⟨c.rd,0,none⟩),.string ⟨aT.toArray⟩] w λe C=>e= .returned (.tuple #[.string ⟨(dq s.aV aT).bE.toArray⟩,.int .i64 ((dq s.aV aT).er:Int)])/\Below w.heap.size w C):=λaT w l ht=>yT aT (h.aE l) t.lB (hg.aE l) ht;have ao:=aG.bA W 164 [.int .i64 aZ,.int .i64 cC,.string ⟨L.toArray⟩,.string ⟨J.toArray⟩];have aw:=sE s.aV L;have az:=sE s.aV J;have HH:Hid (∀w,Below W.heap.size W w->bu w F c rb s/\Fr F F W w):=λw l=>⟨h.aE l,Fr.aE l⟩;have K:=aB b0;have HK:=aB t;have HG:=aB hg;have HF:=aB au;have E:=aB (λw (l:Below W.heap.size W w)=>CE.u L w l hl);have O:=aB (λw (l:Below W.heap.size W w)=>CE.u J w l hr);have aF:Hid (∀k,W.heap.size<=k->F k=none):=λk t=>h.out t;clear h t hg au b0 CE hA;generalize aA:dq s.aV L=eL at*;generalize aC:dq s.aV J=eR at*;clear aA aC;obtain⟨a,an,aR⟩:=eL;obtain⟨d,cy,aQ⟩:=eR;simp only at aw az E O⊢;have aj:=aB ao;clear ao;by_cases h1:an=0
 ·subst h1;rw[TJ (by simp)];by_cases h2:cy=0
  ·subst h2;rw[TJ (by simp)];have a1:=qQ a;have a2:=qQ d;have V:Hid (∀f g w,Below W.heap.size W w->dV w f 0 (bH a)->dV w g 0 (bH d)->f<w.heap.size->g<w.heap.size->Calls prog 183 #[.slice (some ⟨f,0,none⟩) (bH a).length (bH a).length,.slice (some ⟨g,0,none⟩) (bH d).length (bH d).length] w λe C=>e= .returned (.bool (kp (bH a) (bH d)))/\Below w.heap.size w C):=λf g w l I h4 h5 h6=>Jm (bH a) (bH d) _ _ _ _ w ⟨f,0,λ_=>⟨rfl,h5,I⟩⟩ ⟨g,0,λ_=>⟨rfl,h6,h4⟩⟩ (HG.u.aE l) (by omega) (by omega) (λx hx=>by have:=a1.2 x hx;omega) (λx hx=>by have:=a2.2 x hx;omega);have ai:Hid (kp (bH a) (bH d)=true->bH a≠[]):=λe q=>by unfold kp at e;rw[q] at e;simp at e
   have CA:Hid (∀f g w,Below W.heap.size W w->dz w F (.slice (some ⟨f,0,none⟩) (bH a).length (bH a).length) (bH a)->dz w F (.slice (some ⟨g,0,none⟩) (bH d).length (bH d).length) (bH d)->kp (bH a) (bH d)=true->Calls prog 184 #[.pointer (some ⟨c.bb,0,none⟩),.slice (some ⟨f,0,none⟩) (bH a).length (bH a).length,.slice (some ⟨g,0,none⟩) (bH d).length (bH d).length] (w.setCell ⟨c.rd,2,none⟩ (.int .i64 ((s.n:Int)+1))) λe C=>∃G rb',e= .returned (jH rb' (bp {s with n:=s.n+1} (bH a) (bH d)).1)/\bu C G c rb' (bp {s with n:=s.n+1} (bH a) (bH d)).2/\Fr F G W C):=λf g w l I h4 h5=>by
    obtain⟨m1,f1⟩:=HH.u w l;obtain⟨m2,f2⟩:=m1.gh;have t:=HK.u;have q1:=t.tl;have q2:=t.ph;have q3:=t.pt;have q4:=t.iP;have aH:c_ (w.setCell ⟨c.rd,2,none⟩ (.int .i64 ((s.n:Int)+1))):=by obtain⟨m,hm⟩:=HG.u.aE l;refine⟨m,?_⟩;have aL:=uI (HG.u.aE l);have:=f2.tn.block _ aL (λe=>e HF.u);unfold World.cell? at*;rw[this];exact hm
    refine(Qa (bH a) (bH d) _ _ m2 (I.fr f2) (h4.fr f2) (ai.u h5) aH (by omega) (by omega) (λx hx=>by have:=a1.2 x hx;omega) (by simp only;omega) (by simp only;omega) t.ol (by simp only;omega)).mono ?_;rintro e C ⟨G,rb',rfl,m3,f3⟩;exact⟨G,rb',rfl,m3,(f1.trans f2).trans f3⟩
   have ae:=aB (λw=>yp a w aw);have ad:=aB (λw=>yp d w az);have af:Hid (∀w C A r,Below W.heap.size W w->C.ownsRow w.heap.size 9 1 (.slice (some ⟨A,0,none⟩) r.length r.length) r.length (r.map aK)->dz C F (.slice (some ⟨A,0,none⟩) r.length r.length) r):=λw C A r l ho=>dz.AI ho (λk t _=>aF.u k (TT l.size t));have ap:∀w A r,dz w F (.slice (some ⟨A,0,none⟩) r.length r.length) r->A<w.heap.size/\dV w A 0 r:=λw A r h=>by
    rcases h with⟨h1,h2⟩|⟨b,o,cc,h1,h2,I,h4,h5⟩
    ·cases h1
    ·cases h1;exact⟨h2,h4⟩
   have v:=aB ap;clear ap;by_cases I:kp (bH a) (bH d)=false
   ·rw[TP I];rw[I] at V;clear CA ai;go_enter Zs,Y8;unfold dx;go_wp2_with (first|(go_at_call 182;refine(E.u _ K.u).mono ?_;clear E;rintro e w1 ⟨rfl,j⟩;have c3:=(aj.u.aE j).cell? (i:=3) rfl;have D:=aB (K.u.tr j);clear j)|(go_at_call 182;refine(O.u _ D.u).mono ?_;clear O;rintro e N ⟨rfl,z⟩;have U:=aB (D.u.tr z);clear z)|(go_at_call 166;refine(ae.u N).mono ?_;clear ae;rintro e y ⟨f,rfl,aa,S⟩;have ah:=aB (af.u N y f _ U.u aa);have Z:=aB (U.u.tr S);clear aa S)|(go_at_call 166;refine(ad.u y).mono ?_;clear ad;rintro e R ⟨g,rfl,ab,B⟩;have P:=aB (af.u y R g _ Z.u ab);have Q:=aB (ah.u.aE B);have T:=aB (Z.u.tr B);clear ab B)|(go_at_call 183;refine(V.u f g R T.u (v.u _ _ _ Q.u).2 (v.u _ _ _ P.u).2 (v.u _ _ _ Q.u).1 (v.u _ _ _ P.u).1).mono ?_;clear V;rintro e w5 ⟨rfl,H⟩;have p:=aB (HH.u _ (T.u.tr H));clear H)|fail)
    go_ret2
    exact⟨F,rb,rfl,p.u.1,p.u.2⟩
   ·rw[TJ I];have al :kp (bH a) (bH d)=true:=by simpa using I
    rw[al] at V;by_cases aq:s.n=64
    ·rw[TP aq];have aN:((s.n:Int)==64)=true:=by rw[UR];omega
     clear CA ai;go_enter Zs,Y8;unfold dx;go_wp2_with (first|(go_at_call 182;refine(E.u _ K.u).mono ?_;clear E;rintro e w1 ⟨rfl,j⟩;have c3:=(aj.u.aE j).cell? (i:=3) rfl;have D:=aB (K.u.tr j);clear j)|(go_at_call 182;refine(O.u _ D.u).mono ?_;clear O;rintro e N ⟨rfl,z⟩;have U:=aB (D.u.tr z);clear z)|(go_at_call 166;refine(ae.u N).mono ?_;clear ae;rintro e y ⟨f,rfl,aa,S⟩;have ah:=aB (af.u N y f _ U.u aa);have Z:=aB (U.u.tr S);clear aa S)|(go_at_call 166;refine(ad.u y).mono ?_;clear ad;rintro e R ⟨g,rfl,ab,B⟩;have P:=aB (af.u y R g _ Z.u ab);have Q:=aB (ah.u.aE B);have T:=aB (Z.u.tr B);clear ab B)|(go_at_call 183;refine(V.u f g R T.u (v.u _ _ _ Q.u).2 (v.u _ _ _ P.u).2 (v.u _ _ _ Q.u).1 (v.u _ _ _ P.u).1).mono ?_;clear V;rintro e w5 ⟨rfl,H⟩;have p:=aB (HH.u _ (T.u.tr H));have r2:=p.u.1.row.cell? (i:=2) rfl;clear H)|fail)
     go_ret2
     exact⟨F,rb,rfl,p.u.1,p.u.2⟩
    ·rw[TJ aq];have aN:((s.n:Int)==64)=false:=by rw[TQ];omega
     have aS:=HK.u.iP;have HT:=aB al;clear ai I al;go_enter Zs,Y8;unfold dx;go_wp2_with (first|(go_at_call 182;refine(E.u _ K.u).mono ?_;clear E;rintro e w1 ⟨rfl,j⟩;have c3:=(aj.u.aE j).cell? (i:=3) rfl;have D:=aB (K.u.tr j);clear j)|(go_at_call 182;refine(O.u _ D.u).mono ?_;clear O;rintro e N ⟨rfl,z⟩;have U:=aB (D.u.tr z);clear z)|(go_at_call 166;refine(ae.u N).mono ?_;clear ae;rintro e y ⟨f,rfl,aa,S⟩;have ah:=aB (af.u N y f _ U.u aa);have Z:=aB (U.u.tr S);clear aa S)|(go_at_call 166;refine(ad.u y).mono ?_;clear ad;rintro e R ⟨g,rfl,ab,B⟩;have P:=aB (af.u y R g _ Z.u ab);have Q:=aB (ah.u.aE B);have T:=aB (Z.u.tr B);clear ab B)|(go_at_call 183;refine(V.u f g R T.u (v.u _ _ _ Q.u).2 (v.u _ _ _ P.u).2 (v.u _ _ _ Q.u).1 (v.u _ _ _ P.u).1).mono ?_;clear V;rintro e w5 ⟨rfl,H⟩;have ar:=aB (T.u.tr H);have p:=aB (HH.u _ ar.u);have r2:=p.u.1.row.cell? (i:=2) rfl;have f2:=p.u.1.row.frozen 2;have r1:=p.u.1.gh.1.row.cell? (i:=1) rfl;have aD:=aB (P.u.aE H);have aJ:=aB (Q.u.aE H);clear H)|(go_at_call 184;refine(CA.u f g w5 ar.u aJ.u aD.u HT.u).mono ?_;clear CA;rintro e w6 ⟨G,rb',rfl,am,av⟩;have aO:=aB am;have aM:=aB av;clear am av)|fail)
     go_ret2
     exact⟨G,rb',rfl,aO.u,aM.u⟩
  ·have t1:((cy:Int) !=0)=true:=by rw[UY];omega
   rw[TP h2];go_enter Zs,Y8;unfold dx;go_wp2_with (first|(go_at_call 182;refine(E.u _ K.u).mono ?_;clear E;rintro e w1 ⟨rfl,j⟩;have c3:=(aj.u.aE j).cell? (i:=3) rfl;have D:=aB (K.u.tr j);clear j)|(go_at_call 182;refine(O.u _ D.u).mono ?_;clear O;rintro e N ⟨rfl,z⟩;have p:=aB (HH.u _ (D.u.tr z));clear z)|fail)
   go_ret2
   exact⟨F,rb,rfl,p.u.1,p.u.2⟩
 ·have t1:((an:Int) !=0)=true:=by rw[UY];omega
  rw[TP h1];go_enter Zs,Y8;unfold dx;go_wp2_with (first|(go_at_call 182;refine(E.u _ K.u).mono ?_;clear E;rintro e w1 ⟨rfl,j⟩;have p:=aB (HH.u _ (K.u.tr j));clear j)|fail)
  go_ret2
  exact⟨F,rb,rfl,p.u.1,p.u.2⟩
end
def xF (c:Ad)(bf bi:Nat)(ve:ay)(ef:List bL)(fs:List aI)(aP:Int)(M:Nat)(rec:St->ag->Nat×Nat×St)(o:Nat):Prop:=
 ∀(W:ax) (F:dy) (rb:Nat->Nat) (s:St) (k:Nat) (a:ag),bu W F c rb s->En W F c.bx bf bi ve ef fs aP->Ok s k->s.opn=o->a.length+1<=M->a.length<=1073741824->k+(100-s.inc)*M+M<=4294967296->
  Calls prog 89 #[.pointer (some ⟨c.rd,0,none⟩),.string ⟨a.toArray⟩] W λe b=>∃G rb',e= .returned (.tuple #[.int .i64 ((rec s a).1:Int),.int .i64 ((rec s a).2.1:Int)])/\bu b G c rb' (rec s a).2.2/\Fr F G W b
section
variable {W X:ax} {F G:dy} {c:Ad} {rb:Nat->Nat} {s:St} {bf bi:Nat} {ve:ay} {ef:List bL} {fs:List aI} {aP:Int} {M o k:Nat} {rec:St->ag->Nat×Nat×St}
theorem bu.R7 (h:bu W F c rb s):bu ((W.setCell ⟨c.rd,3,none⟩ (.int .i64 ((s.inc:Int)+1))).setCell ⟨c.rd,4,none⟩ (.int .i64 ((s.opn:Int)+1))) F c rb {s with inc:=s.inc+1,opn:=s.opn+1}/\Fr F F W ((W.setCell ⟨c.rd,3,none⟩ (.int .i64 ((s.inc:Int)+1))).setCell ⟨c.rd,4,none⟩ (.int .i64 ((s.opn:Int)+1))):=by
 have b:((s.inc+1:Nat):Int)=(s.inc:Int)+1:=by omega
 have a:((s.opn+1:Nat):Int)=(s.opn:Int)+1:=by omega
 exact h.AK (n:=s.n) (inc:=s.inc+1) (opn:=s.opn+1) ((Tn.set (p:=λk=>k=c.rd) W ⟨c.rd,3,none⟩ _ rfl).trans (Tn.set _ ⟨c.rd,4,none⟩ _ rfl)) (by rw[b,a];exact(h.row.set 3 _).set 4 _)
theorem bu.Sx (h:bu W F c rb s)(b:1<=s.opn):bu (W.setCell ⟨c.rd,4,none⟩ (.int .i64 ((s.opn:Int)-1))) F c rb {s with opn:=s.opn-1}/\Fr F F W (W.setCell ⟨c.rd,4,none⟩ (.int .i64 ((s.opn:Int)-1))):=by
 have a:((s.opn-1:Nat):Int)=(s.opn:Int)-1:=by omega
 exact h.AK (n:=s.n) (inc:=s.inc) (opn:=s.opn-1) (Tn.set (p:=λk=>k=c.rd) W ⟨c.rd,4,none⟩ _ rfl) (by rw[a];exact h.row.set 4 _)
theorem Pw (b:Nat)(u:FrameMode)(h:bu W F c rb s)(d:aG W b 264 [.pointer (some ⟨c.rd,0,none⟩)])(g:1<=s.opn)(m:s.opn<=4):
 CallsD prog 233 #[.pointer (some ⟨b,0,none⟩)] u W λe j a=>j =u/\(e= .returned (.tuple #[])/\bu a F c rb {s with opn:=s.opn-1}/\Fr F F W a):=by
 have l:=d.cell? (i:=0) rfl;have p:=h.row.cell? (i:=4) rfl;have n:=h.row.frozen 4;have f:=aB (h.Sx g);clear h d;go_enter_d func233,ntmps233
 go_wp2_with fail
 go_end0
 exact⟨rfl,f.u⟩
theorem Jd (T:o≠3->xF c bf bi ve ef fs aP M rec (o+1))(D:oB M rec)(P:∀V b,Pl.look fs V=some b->b.aT.length+1<=M/\b.aT.length<=1073741824)(name:ag)(aZ:Nat)(h:bu W F c rb s)(A:En W F c.bx bf bi ve ef fs aP)(d:Ok s k)(Z:s.opn=o)(aj:o<=3)(E:k+(100-s.inc)*M<=4294967296):
 Calls prog 185 #[.pointer (some ⟨c.rd,0,none⟩),.string ⟨name.toArray⟩,.int .i64 (aZ:Int)] W λe n=>∃G rb',e= .returned (.tuple #[.int .i64 ((ic rec fs s name aZ).1:Int),.int .i64 ((ic rec fs s name aZ).2.1:Int)])/\bu n G c rb' (ic rec fs s name aZ).2.2/\Fr F G W n :=by
 have al:∀(fn:Fn) (first cap:Array ay) (w:ax),(Instr.makeFunc fn first cap).run prog w= .ok (.func fn first cap) w:=λ_ _ _ _=>rfl;have y:=(TF W.heap.size W).alloc ak (.cells #[.pointer (some ⟨c.rd,0,none⟩)] 264);have Q:=aG.bA W 264 [.pointer (some ⟨c.rd,0,none⟩)];have c0:=h.row.cell? (i:=0) rfl;have g:=aB (Bu c.bx bf bi ve ef fs aP name (W.alloc (.cells #[.pointer (some ⟨c.rd,0,none⟩)] 264)) (A.pw.aE y));have r:Hid (∀w,Below (W.alloc (.cells #[.pointer (some ⟨c.rd,0,none⟩)] 264)).heap.size (W.alloc (.cells #[.pointer (some ⟨c.rd,0,none⟩)] 264)) w->bu w F c rb s/\Fr F F W w/\En w F c.bx bf bi ve ef fs aP/\aG w W.heap.size 264 [.pointer (some ⟨c.rd,0,none⟩)]):=λw N=>by have z:Below W.heap.size W w:=y.trans (N.mono (by rw[TM];omega));exact⟨h.aE z,Fr.aE z,A.aE z,Q.aE N⟩
 have af:F W.heap.size=none:=h.out ak;have l1:c.rd<W.heap.size:=h.row.lt;clear h A y Q;cases m:Pl.look fs name with
 |none=>
  have l:ic rec fs s name aZ=(2,aZ,s):=by unfold ic;rw[m]
  rw[l];rw[m] at g;simp only at g;clear l;go_enter_defers aaF,aae
  go_wp2_with (first|(go_at_call 87;refine g.u.mono ?_;clear g;rintro e t ⟨rfl,j⟩;have a:=aB (r.u _ j);clear j)|fail)
  exact⟨_,YM rfl _ _ _,F,rb,rfl,a.u.1,a.u.2.1⟩
 |some b=>
  rw[m] at g;simp only at g;obtain⟨H,K⟩:=P name b m;by_cases v:s.opn=3
  ·have l:ic rec fs s name aZ=(3,aZ,s):=by unfold ic;rw[m];simp only;rw[TP v]
   rw[l];have t3:((s.opn:Int)==3)=true:=by rw[UR];omega
   clear l;go_enter_defers aaF,aae
   go_wp2_with (first|(go_at_call 87;refine g.u.mono ?_;clear g;rintro e t ⟨rfl,j⟩;have a:=aB (r.u _ j);have R:=a.u.2.2.2.cell? (i:=0) rfl;have S:=a.u.1.row.cell? (i:=4) rfl;clear j)|fail)
   exact⟨_,YM rfl _ _ _,F,rb,rfl,a.u.1,a.u.2.1⟩
  ·have t3:((s.opn:Int)==3)=false:=by rw[TQ];omega
   by_cases O:s.inc=100
   ·have l:ic rec fs s name aZ=(5,aZ,s):=by unfold ic;rw[m];simp only;rw[TJ v,TP O]
    rw[l];have t4:((s.inc:Int)==100)=true:=by rw[UR];omega
    clear l;go_enter_defers aaF,aae
    go_wp2_with (first|(go_at_call 87;refine g.u.mono ?_;clear g;rintro e t ⟨rfl,j⟩;have a:=aB (r.u _ j);have R:=a.u.2.2.2.cell? (i:=0) rfl;have S:=a.u.1.row.cell? (i:=4) rfl;have d3:=a.u.1.row.cell? (i:=3) rfl;clear j)|fail)
    exact⟨_,YM rfl _ _ _,F,rb,rfl,a.u.1,a.u.2.1⟩
   ·have t4:((s.inc:Int)==100)=false:=by rw[TQ];omega
    have hi:=d.inc;have l:ic rec fs s name aZ=((rec {s with inc:=s.inc+1,opn:=s.opn+1} b.aT).1,(rec {s with inc:=s.inc+1,opn:=s.opn+1} b.aT).2.1,{(rec {s with inc:=s.inc+1,opn:=s.opn+1} b.aT).2.2 with opn:=(rec {s with inc:=s.inc+1,opn:=s.opn+1} b.aT).2.2.opn-1}):=by unfold ic;rw[m];simp only;rw[TJ v,TJ O]
    rw[l];have x:Ok {s with inc:=s.inc+1,opn:=s.opn+1} k:=⟨d.lB,d.nl,d.ol,d.tl,d.iP,d.ph,d.pt,d.rl,d.cl,d.rs,by simp only;omega⟩;have p:=(D _ k b.aT x H K).opn;simp only at p;have I:k+(100-(s.inc+1))*M+M<=4294967296:=by
     obtain⟨q,hq⟩:∃q,100-s.inc=q+1:=⟨99-s.inc,by omega⟩;have ah:100-(s.inc+1)=q:=by omega
     rw[hq,VO] at E;rw[ah];omega
    have CR:Hid (∀w,bu w F c rb s->En w F c.bx bf bi ve ef fs aP->Calls prog 89 #[.pointer (some ⟨c.rd,0,none⟩),.string ⟨b.aT.toArray⟩] ((w.setCell ⟨c.rd,3,none⟩ (.int .i64 ((s.inc:Int)+1))).setCell ⟨c.rd,4,none⟩ (.int .i64 ((s.opn:Int)+1))) λe n=>∃G rb',e= .returned (.tuple #[.int .i64 ((rec {s with inc:=s.inc+1,opn:=s.opn+1} b.aT).1:Int),.int .i64 ((rec {s with inc:=s.inc+1,opn:=s.opn+1} b.aT).2.1:Int)])/\bu n G c rb' (rec {s with inc:=s.inc+1,opn:=s.opn+1} b.aT).2.2/\Fr F G w n):=λw hm he=>by obtain⟨m1,C⟩:=hm.R7;refine(T (by omega) _ F rb _ k b.aT m1 (he.fr C) x (by simp only;omega) H K I).mono ?_;rintro e w' ⟨G,rb',rfl,m2,f2⟩;exact⟨G,rb',rfl,m2,C.trans f2⟩
    clear T D P l d x E I;generalize rec {s with inc:=s.inc+1,opn:=s.opn+1} b.aT=ad at*;obtain⟨re,rn,rs⟩:=ad;simp only at p CR⊢;have ai:s.opn+1<=4:=by omega
    have U:=aB p;clear Z p;go_enter_defers aaF,aae
    go_wp2_with (first|(go_at_call 87;refine g.u.mono ?_;clear g;rintro e t ⟨rfl,j⟩;have a:=aB (r.u _ j);have R:=a.u.2.2.2.cell? (i:=0) rfl;have S:=a.u.1.row.cell? (i:=4) rfl;have d3:=a.u.1.row.cell? (i:=3) rfl;have f4:=a.u.1.row.frozen 4;have f3:=a.u.1.row.frozen 3;clear j)|(go_at_call 89;refine(CR.u _ a.u.1 a.u.2.2.1).mono ?_;clear CR;rintro e w2 ⟨G,rb',rfl,J,L⟩;have ae:=aB J;have B:=aB L;clear J L)|fail)
    have p:=U.u;have aa:aG w2 W.heap.size 264 [.pointer (some ⟨c.rd,0,none⟩)]:=a.u.2.2.2.tn B.u.tn (λe=>e af);refine leaves_cons (f:=233) (args:= #[.pointer (some ⟨W.heap.size,0,none⟩)]) (by simp) (by simp[go_sem]) ?_;refine(Pw W.heap.size .returning ae.u aa (by omega) (by omega)).mono ?_;rintro e u' w5 ⟨rfl,rfl,ac,ab⟩;exact⟨_,YM rfl _ _ _,G,rb',rfl,ac,(a.u.2.1.trans B.u).trans ab⟩
end
section
variable {W X:ax} {F G:dy} {c:Ad} {rb:Nat->Nat} {s:St} {bf bi:Nat} {ve:ay} {ef:List bL} {fs:List aI} {aP:Int} {M o k:Nat} {rec:St->ag->Nat×Nat×St}
structure IQ (W:ax)(F:dy)(c:Ad)(M:Nat)(rec:St->ag->Nat×Nat×St)(fs:List aI)(aZ:Nat)(ws:List ag)(s:St)(k j:Nat)(X:ax):Prop where
 db:∃G rb' sj kj,bu X G c rb' sj/\Fr F G W X/\Ok sj kj/\kj+(100-sj.inc)*M<=k+(100-s.inc)*M/\sj.opn=s.opn/\j6 rec fs aZ ws s=j6 rec fs aZ (ws.drop j) sj
theorem KB (av:o≠3->xF c bf bi ve ef fs aP M rec (o+1))(ac:oB M rec)(hf:∀an U,Pl.look fs an=some U->U.aT.length+1<=M/\U.aT.length<=1073741824)(p:Ln)(h:bu W F c rb s)(hE:En W F c.bx bf bi ve ef fs aP)(f:Ok s k)(ho:s.opn=o)(aD:o<=3)(ap:k+(100-s.inc)*M<=4294967296)(hl:p.right.length<=1073741824):
 Calls prog 138 #[.pointer (some ⟨c.rd,0,none⟩),dx p] W λe W'=>∃G rb',e= .returned (.tuple #[.int .i64 ((kn rec fs s p).1:Int),.int .i64 ((kn rec fs s p).2.1:Int)])/\bu W' G c rb' (kn rec fs s p).2.2/\Fr F G W W' :=by
 obtain⟨aZ,T,L,d⟩:=p;have hA:kn rec fs s ⟨aZ,T,L,d⟩=if(dq s.aV d).er≠0 then((dq s.aV d).er,aZ,s) else j6 rec fs aZ (bH (dq s.aV d).bE) s:=rfl
 rw[hA];have N:=(TF W.heap.size W).alloc ak (.cells #[.int .i64 aZ,.int .i64 T,.string ⟨L.toArray⟩,.string ⟨d.toArray⟩] 164);have ab:=aG.bA W 164 [.int .i64 aZ,.int .i64 T,.string ⟨L.toArray⟩,.string ⟨d.toArray⟩];have x:=aB (yT d (h.aE N) f.lB (hE.fh.aE N) hl);have al:=sE s.aV d;have HH:Hid (∀w,Below W.heap.size W w->bu w F c rb s/\Fr F F W w/\En w F c.bx bf bi ve ef fs aP):=λw V=>⟨h.aE V,Fr.aE V,hE.aE V⟩;have ad:Hid (∀k,W.heap.size<=k->F k=none):=λk f=>h.out f;have ai:=aB N;have aj:=aB ab;clear h hE N ab hA;generalize dq s.aV d=eR at*;obtain⟨R,cy,aH⟩:=eR;simp only at al x⊢;by_cases h1:cy=0
 ·subst h1;rw[TJ (by simp)];have a1:=qQ R;have CW:=aB (λw=>yp R w al);generalize bH R=a at*;go_enter func138,ntmps138;unfold dx;go_wp2_with (first|(go_at_call 182;refine x.u.mono ?_;clear x;rintro e S ⟨rfl,l⟩;have ar:=aB (aj.u.aE l);have am:=aB (ai.u.tr l);clear l)|(go_at_call 166;refine(CW.u S).mono ?_;clear CW;rintro e A ⟨A1,rfl,ae,aa⟩;have au:Hid (dz A F (.slice (some ⟨A1,0,none⟩) a.length a.length) a):=dz.AI ae (λk f _=>ad.u k (TT am.u.size f));have aC:=aB (ar.u.aE aa);have m:=aB (HH.u _ (am.u.tr aa));clear ae aa)|fail)
  have af:Hid (IQ A F c M rec fs aZ a s k 0 A):=⟨F,rb,s,k,m.u.1,Fr.refl _ _,f,TD _,rfl,by rw[V4]⟩;have aq:F W.heap.size=none:=ad.u _ ak;have HK:=aB f;have HO:=aB ho;clear f ho;go_loopw [27] (λiv wr=>∃b:Nat,iv= .int .i64 b/\b<=a.length/\Hid (IQ A F c M rec fs aZ a s k b wr)) (λiv _=>a.length-aS iv)
  case atStart=>exact⟨0,rfl,by omega,af⟩
  case round=>
   clear af;obtain⟨b,rfl,aJ,n⟩:=hrel;obtain⟨G,rb',y,kj,B,j,H,O,K,Q⟩:=n.u.db;by_cases hj:b<a.length
   ·have t1:(b:Int)<a.length:=by omega
    have t0:(0:Int)<=(b:Int):=by omega
    have hS:=au.u.fr j;rcases hS with⟨q,-⟩|⟨aL,aN,aM,q,x1,x2,x3,-⟩
    ·cases q
    cases q;have cn:=x3 b a[b] (TH hj);unfold aK at cn;rw[Ur] at cn;have r0:=(aC.u.tn j.tn (λe=>e aq)).cell? (i:=0) rfl;have ah:a.drop b=a[b]::a.drop (b+1):=T2 hj;have z:=aB (Jd av ac hf a[b] aZ B (m.u.2.2.fr j) H (K.trans HO.u) aD (TT O ap));have HG:=aB (E7 ac hf H a[b] aZ);have v:Hid (j6 rec fs aZ a s=if(ic rec fs y a[b] aZ).1≠0 then ic rec fs y a[b] aZ else j6 rec fs aZ (a.drop (b+1)) (ic rec fs y a[b] aZ).2.2):=by show _=_;rw[Q,ah,j6]
    have g:=aB j;have az:=aB O;have aw:=aB K;clear B j H O K Q x3 ah n;generalize a[b]=aF at*;generalize ic rec fs y aF aZ=rf at*;obtain⟨C,rn,rs⟩:=rf;simp only at z HG v;by_cases P:C=0
    ·have u1:((C:Int) !=0)=false:=by rw[Uv];omega
     have aA:=aB P;clear P;go_wp2_with (first|(go_at_call 185;refine z.u.mono ?_;clear z;rintro e w3 ⟨J,D,rfl,t,r⟩;have E:=aB t;have I:=aB r;clear t r)|fail)
     go_roundw
     case rel=>
      obtain⟨⟨k',g1,g2⟩,g3,g4⟩:=HG.u;refine⟨b+1,by go_num,by omega,⟨J,D,rs,k',E.u,g.u.trans I.u,g1,?_,g3.trans aw.u,?_⟩⟩
      ·have:=az.u;omega
      ·rw[v.u,TJ (by simp[aA.u])]
     case measure=>simp only[aS];omega
    ·have u1:((C:Int) !=0)=true:=by rw[UY];omega
     have HQ:Hid (j6 rec fs aZ a s=(C,rn,rs)):=by show _=_;rw[v.u,TP P]
     clear P;go_wp2_with (first|(go_at_call 185;refine z.u.mono ?_;clear z;rintro e w3 ⟨J,D,rfl,t,r⟩;have E:=aB t;have I:=aB r;clear t r)|fail)
     go_ret2
     rw[HQ.u];first
      |exact⟨J,D,rfl,E.u,(m.u.2.1.trans g.u).trans I.u⟩
      |exact⟨rfl,J,D,E.u,(m.u.2.1.trans g.u).trans I.u⟩
   ·have ao:b=a.length:=by omega
    subst ao;have t1:¬(a.length:Int)<a.length:=by omega
    have v:Hid (j6 rec fs aZ a s=(0,0,y)):=by show _=_;rw[Q,Wm,j6]
    have Z:=aB B;have g:=aB j;clear B j H O K Q n;go_wp2_with fail
    go_ret2
    rw[v.u];first
     |exact⟨G,rb',rfl,Z.u,m.u.2.1.trans g.u⟩
     |exact⟨rfl,G,rb',Z.u,m.u.2.1.trans g.u⟩
     |exact⟨rfl,G,⟨rb',Z.u⟩,m.u.2.1.trans g.u⟩
 ·have t1:((cy:Int) !=0)=true:=by rw[UY];omega
  rw[TP h1];go_enter func138,ntmps138;unfold dx;go_wp2_with (first|(go_at_call 182;refine x.u.mono ?_;clear x;rintro e S ⟨rfl,l⟩;have r0:=(aj.u.aE l).cell? (i:=0) rfl;have n:=aB (HH.u S.drew (ai.u.tr l).drew);clear l)|fail)
  go_region
  all_goals go_wp2_with fail
  all_goals go_ret2
  all_goals exact⟨F,rb,rfl,n.u.1,n.u.2.1⟩
end
variable {g:TypeId}{i:List ay}
section
variable {w W X Y:ax} {F G G' :dy} {c:Ad} {rb rb' :Nat->Nat} {s s' :St} {v3:ay} {er aZ:Nat}
theorem bu.eQ (h:bu X F c rb s)(P:X.heap.size<=Y.heap.size)(d:∀k a,F k=some a->Y.heap[k]?=X.heap[k]?)(n:∀(k:Nat) (f:Array ay) (g:Nat×Nat),X.heap[k]?=some (Obj.cells f 9 g)->Y.heap[k]?=X.heap[k]?):bu Y F c rb s:=by
 have j:∀{a v xs},gO X F a v rb xs->gO Y F a v rb xs:=λh=>h.same (λk e=>⟨d k _ e,e⟩);have L:∀{a v xs},mK X F a v xs->mK Y F a v xs:=λh=>h.same (λk e=>⟨d k _ e,e⟩);have i:∀{v ws},dz X F v ws->dz Y F v ws:=λh=>by
  rcases h with h|⟨b,o,c,h1,h2,h3,h4,⟨f,g,h5⟩,h6⟩
  ·exact .inl h
  ·have q:=n b f g h5;refine .inr ⟨b,o,c,h1,by omega,h3,λO x y=> ?_,⟨f,g,q.trans h5⟩,h6⟩;have:=h4 O x y;unfold World.cell? at*;rw[q];exact this
 obtain⟨p,I,D⟩:=h.cV;obtain⟨J,r,B,C⟩:=h.ij;refine⟨λk a e=> ?_,h.mw,h.kB,h.lQ,h.lO,h.lK,h.ki,(d _ _ h.mw).trans h.row,⟨p,(d _ _ h.kB).trans I,j D⟩,h.aV.kG (d _ _ h.lQ),h.jt.kG (d _ _ h.lK),⟨J,r.kG (d _ _ h.lO),B,λname=>j (C name)⟩,λm N l=> ?_,h.pl,h.ol⟩
 ·rw[d k a e];exact h.ty k a e
 ·obtain⟨u,H,t,z,E,A,K⟩:=h.aD m N l;exact⟨u,H,t,(d _ _ (h.ki m (TZ.1 l).1)).trans z,i E,i A,L K⟩
theorem bu.map (h:bu X F c rb s):(∃a aP,X.heap[c.nm]?=some (.map a aP))/\(∃a aP,X.heap[c.bt]?=some (.map a aP))/\(∃a aP,X.heap[c.pb]?=some (.map a aP)):=by obtain⟨e,l,j,-⟩:=h.aV;obtain⟨n,⟨i,d,f,-⟩,-⟩:=h.ij;obtain⟨b,g,m,-⟩:=h.jt;exact⟨⟨e,l,j⟩,⟨i,d,f⟩,⟨b,g,m⟩⟩
theorem bu.It (h:bu X F c rb s){k:Nat}{b:Array ay}{e:TypeId}{f:Nat×Nat}(a:X.heap[k]?=some (Obj.cells b e f))(j:¬nY e):F k=none:=by
 cases m:F k with
 |none=>rfl
 |some i=>
  obtain⟨⟨p,t,l⟩,⟨r,n,d⟩,⟨u,v,g⟩⟩:=h.map;rcases h.ty k i m with q|q|q|⟨cs',e',fz',q1,q2⟩
  ·rw[q,l] at a;cases a
  ·rw[q,d] at a;cases a
  ·rw[q,g] at a;cases a
  ·rw[q1] at a;cases a;exact absurd q2 j
theorem bu.rest (h:bu X F c rb s){k:Nat}{o:Obj}(a:X.heap[k]?=some o)(e:o.isCells=false)(d:k≠c.nm)(b:k≠c.bt)(g:k≠c.pb):F k=none:=by
 cases f:F k with
 |none=>rfl
 |some i=>
  rcases h.ty k i f with q|q|q|⟨cs',e',fz',q1,q2⟩
  ·exact absurd q d
  ·exact absurd q b
  ·exact absurd q g
  ·rw[q1] at a;cases a;cases e
theorem bu.RY (h:bu X F c rb s)(f:Fr F G X Y){B:Nat}(g:c.nm<B)(d:c.bt<B)(j:c.pb<B):KeepsFrom B X Y:=⟨f.tn.size,λk o i a b=>(f.tn.block k (TN.1 a).1 (λe=>e (h.rest a b (by omega) (by omega) (by omega)))).trans a⟩
theorem bu.S5 (h:bu X F c rb s)(f:Fr F G X Y)(g:c_ X->c_ Y){a:Nat}(m:c.nm<=a)(l:c.bt<=a)(p:c.pb<=a):jY a X Y:=⟨g,λk j n b=>(f.tn.block k (TN.1 b).1 (λe=>e (h.It b (by unfold nY;decide)))).trans b,λk o b d i=>(f.tn.block k (TN.1 d).1 (λe=>e (h.rest d i (by omega) (by omega) (by omega)))).trans d,f.tn.size⟩
theorem O3 {b o B:Nat}(h:aG X b g i)(u:ay):KeepsFrom B X (X.setCell ⟨b,o,none⟩ u):=by refine⟨by simp[World.setCell],λk f _ a d=>(T5 X ⟨b,o,none⟩ u k (λe=> ?_)).trans a⟩;unfold aG at h;simp only at e;rw[e,h] at a;cases a;cases d
structure gF (w:ax)(F:dy)(c:Ad)(G:dy)(rb:Nat->Nat)(s:St)(v3:ay)(er aZ:Nat)(W:ax):Prop where
 db:bu W G c rb s
 fr:Fr F G w W
 r0:aG W w.heap.size 264 [.pointer (some ⟨c.rd,0,none⟩)]
 r1:aG W (w.heap.size+1) 24 [.int .i64 (er:Int)]
 r2:aG W (w.heap.size+2) 3 [.int .i64 (aZ:Int)]
 r3:aG W (w.heap.size+3) 265 [v3]
 g0:G w.heap.size=none
 g1:G (w.heap.size+1)=none
 g2:G (w.heap.size+2)=none
 g3:G (w.heap.size+3)=none
theorem gF.step (h:gF w F c G rb s v3 er aZ X)(m:bu Y G' c rb' s')(f:Fr G G' X Y):gF w F c G' rb' s' v3 er aZ Y:=⟨m,h.fr.trans f,h.r0.tn f.tn (λe=>e h.g0),h.r1.tn f.tn (λe=>e h.g1),h.r2.tn f.tn (λe=>e h.g2),h.r3.tn f.tn (λe=>e h.g3),f.fm _ h.r0.lt h.g0,f.fm _ h.r1.lt h.g1,f.fm _ h.r2.lt h.g2,f.fm _ h.r3.lt h.g3⟩
theorem gF.aE (h:gF w F c G rb s v3 er aZ X)(a:Below X.heap.size X Y):gF w F c G rb s v3 er aZ Y:=h.step (h.db.aE a) (Fr.aE a)
theorem Ab {n b:Nat}(h:Fr F G w X)(f:w.heap.size=n)(e:n<=b)(o:Nat)(u:ay):Fr F G w (X.setCell ⟨b,o,none⟩ u):=⟨⟨h.tn.os,h.tn.tape,h.tn.output,by have:=h.tn.size;simpa [World.setCell] using this,λk d a=>(T5 X ⟨b,o,none⟩ u k (by simp only;omega)).trans (h.tn.block k d a)⟩,h.fm⟩
theorem bu.AO (h:bu X F c rb s){b o:Nat}(a:aG X b g i)(f:g≠9)(d:F b=none)(u:ay):bu (X.setCell ⟨b,o,none⟩ u) F c rb s:=by
 refine h.eQ (by simp[World.setCell]) (λk j e=>T5 X ⟨b,o,none⟩ u k (λq=> ?_)) (λk l m e=>T5 X ⟨b,o,none⟩ u k (λq=> ?_))
 ·simp only at q;rw[q,d] at e;cases e
 ·simp only at q;unfold aG at a;rw[q,a] at e;cases e;exact f rfl
theorem gF.open (h:gF w F c G rb s v3 er aZ X)(u:ay):gF w F c G rb s u er aZ (X.setCell ⟨w.heap.size+3,0,none⟩ u):=⟨h.db.AO h.r3 (by decide) h.g3 u,Ab h.fr rfl (by omega) _ _,h.r0.eH (by omega) _ _,h.r1.eH (by omega) _ _,h.r2.eH (by omega) _ _,h.r3.set 0 u,h.g0,h.g1,h.g2,h.g3⟩
theorem gF.kQ (h:gF w F c G rb s v3 er aZ X)(b d:Nat):gF w F c G rb s v3 b d ((X.setCell ⟨w.heap.size+1,0,none⟩ (.int .i64 (b:Int))).setCell ⟨w.heap.size+2,0,none⟩ (.int .i64 (d:Int))):=by have a:gF w F c G rb s v3 b aZ (X.setCell ⟨w.heap.size+1,0,none⟩ (.int .i64 (b:Int))):=⟨h.db.AO h.r1 (by decide) h.g1 _,Ab h.fr rfl (by omega) _ _,h.r0.eH (by omega) _ _,h.r1.set 0 _,h.r2.eH (by omega) _ _,h.r3.eH (by omega) _ _,h.g0,h.g1,h.g2,h.g3⟩;exact⟨a.db.AO a.r2 (by decide) a.g2 _,Ab a.fr rfl (by omega) _ _,a.r0.eH (by omega) _ _,a.r1.eH (by omega) _ _,a.r2.set 0 _,a.r3.eH (by omega) _ _,a.g0,a.g1,a.g2,a.g3⟩
theorem gF.bI {β:Type}{B:Nat}(v:w.heap.size<=B)(u:c.nm<B)(t:c.bt<B)(x:c.pb<B):OwnFrom B (λ(_:β) W=>gF w F c G rb s v3 er aZ W):=λ_ X Y row h a j=>by
 have d:∀(k:Nat) (b:Array ay) (e:TypeId) (g:Nat×Nat),X.heap[k]?=some (Obj.cells b e g)->Y.heap[k]?=X.heap[k]?:=λk b e g f=>a.block k (TN.1 f).1 (λq=>by obtain⟨_,o,l,n⟩:=j k q.symm;rw[f] at l;cases l;cases n);have i:∀k,k<B->k<X.heap.size->Y.heap[k]?=X.heap[k]?:=λk f r=>a.block k r (λq=>by have:=(j k q.symm).1;omega);refine⟨h.db.eQ a.size (λk p e=> ?_) (λk b g e=>d k b _ g e),⟨⟨a.os.trans h.fr.tn.os,a.tape.trans h.fr.tn.tape,a.output.trans h.fr.tn.output,TT h.fr.tn.size a.size,λk f m=>(i k (by omega) (T7 f h.fr.tn.size)).trans (h.fr.tn.block k f m)⟩,h.fr.fm⟩,(d _ _ _ _ h.r0).trans h.r0,(d _ _ _ _ h.r1).trans h.r1,(d _ _ _ _ h.r2).trans h.r2,(d _ _ _ _ h.r3).trans h.r3,h.g0,h.g1,h.g2,h.g3⟩;rcases h.db.ty k p e with q|q|q|⟨b,e',g,q1,-⟩
 ·exact i k (by omega) (h.db.lt e)
 ·exact i k (by omega) (h.db.lt e)
 ·exact i k (by omega) (h.db.lt e)
 ·exact d k b e' g q1
def pn (rd:Nat)(a:ag)(w:ax):ax:=((((w.alloc (.cells #[.pointer (some ⟨rd,0,none⟩)] 264)).alloc (.cells #[.int .i64 0] 24)).alloc (.cells #[.int .i64 0] 3)).alloc (.cells #[.pointer none] 265)).alloc (.cells #[.string ⟨a.toArray⟩] 9)
theorem M4 (a:ag)(h:bu w F c rb s):gF w F c F rb s (.pointer none) 0 0 (pn c.rd a w)/\aG (pn c.rd a w) (w.heap.size+4) 9 [.string ⟨a.toArray⟩]/\(pn c.rd a w).heap.size=w.heap.size+5/\Below w.heap.size w (pn c.rd a w):=by
 have e:(pn c.rd a w).heap.size=w.heap.size+5:=by simp[pn]
 have b:Below w.heap.size w (pn c.rd a w):=(((((aj w _).alloc (by simp only[TM];omega) _).alloc (by simp only[TM];omega) _).alloc (by simp only[TM];omega) _).alloc (by simp only[TM];omega) _);have d:∀k:Nat,(pn c.rd a w).heap[k]?=(((((w.heap.push (.cells #[.pointer (some ⟨c.rd,0,none⟩)] 264)).push (.cells #[.int .i64 0] 24)).push (.cells #[.int .i64 0] 3)).push (.cells #[.pointer none] 265)).push (.cells #[.string ⟨a.toArray⟩] 9))[k]?:=λ_=>rfl;refine⟨⟨h.aE b,Fr.aE b,?_,?_,?_,?_,h.out ak,h.out (by omega),h.out (by omega),h.out (by omega)⟩,?_,e,b⟩;all_goals(unfold aG;rw[d];simp only[Array.getElem?_push,Array.size_push];repeat (first|rw[TP trivial]|rw[TP (by omega)]|rw[TJ (by omega)]))
 all_goals rfl
end
