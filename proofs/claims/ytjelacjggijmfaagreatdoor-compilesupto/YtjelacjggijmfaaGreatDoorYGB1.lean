/- . -/
import Derived.Test.YtjelacjggijmfaaGreatDoorYGT1
set_option maxHeartbeats 2000000
set_option maxRecDepth 100000
namespace Go.Proofs.YtjelacjggijmfaaGreatDoor
open Pl Mk Cp Proofs.Tryz
open RowKit MapKept ChangeMaps Maps
def jh (W:ax)(bb nm bt pb:Nat)(vp:ay)(first:ag):Prop:=aG W bb 142 [.map (some nm),vp,aK first,.map (some bt),.map (some pb)]
theorem yf (bb nm bt pb:Nat)(vp:ay)(first:ag)(W:ax)(h:jh W bb nm bt pb vp first):
 Calls prog 90 #[.pointer (some ⟨bb,0,none⟩)] W λe W'=>e= .returned (.string ⟨first.toArray⟩)/\W' =W:=by
 have a:=aG.cell? (i:=2) h rfl;unfold aK at a;clear h;go_enter func90,ntmps90;go_wp2_with fail
 go_ret;exact⟨rfl,rfl⟩
theorem KE (bb nm bt pb:Nat)(vp:ay)(first:ag)(a:List ag)(name:ag)(W:ax)(h:jh W bb nm bt pb vp first)(f:bC W pb (dm a)):
 Calls prog 237 #[.pointer (some ⟨bb,0,none⟩),.string ⟨name.toArray⟩] W λe W'=>e= .returned (.bool (decide (name∈a)))/\Below W.heap.size W W' :=by
 have k:=aG.cell? (i:=4) h rfl;have j:=aB f;have g:=aB ((TF W.heap.size W).alloc ak (.cells #[] 316));clear h f;by_cases b:name∈a
 ·have c:cJ (dm a) name=some (.agg #[]):=by rw[s8,TP b]
  have d:=aB c;rw[Uz b];clear c b;go_enter func237,ntmps237;go_wp2_with (first|(at_lookup;refine pQ _ rfl _ _ 140 rfl 9 316 VN T0 (.agg #[]) (s6 _) pb (dm a) rfl j.u name rfl (.agg #[]) d.u ?_)|fail)
  go_ret;exact⟨rfl,g.u⟩
 ·have c:cJ (dm a) name=none:=by rw[s8,TJ b]
  have d:=aB c;rw[UA b];clear c b;go_enter func237,ntmps237;go_wp2_with (first|(at_lookup;refine pR _ rfl _ _ 140 rfl 9 316 VN T0 (.agg #[]) (s6 _) pb (dm a) rfl j.u name rfl d.u ?_)|fail)
  go_ret;exact⟨rfl,g.u⟩
theorem wa (w:ax):(zeroValue 138).run prog w= .ok (.slice none 0 0) w:=by kernel_rfl
theorem LP (bb nm bt pb:Nat)(vp:ay)(first:ag)(l:df)(name:ag)(u:ay)(W:ax)(h:jh W bb nm bt pb vp first)(a:bC W bt l)(b:(cJ l name).getD (.slice none 0 0)=u):
 Calls prog 236 #[.pointer (some ⟨bb,0,none⟩),.string ⟨name.toArray⟩] W λe W'=>e= .returned u/\W' =W:=by
 have f:=aG.cell? (i:=3) h rfl;have d:=aB a;have c:=aB b;clear h a b;go_enter func236,ntmps236;go_wp2_with (first|(at_lookup;refine mz _ rfl _ _ 139 rfl 9 138 Xy T0 (.slice none 0 0) (wa _) bt l rfl d.u name rfl u c.u ?_)|fail)
 go_ret;exact⟨rfl,rfl⟩
theorem J4 (bb nm bt pb:Nat)(vp:ay)(first:ag)(l:df)(name:ag)(a:Option Addr)(n c:Nat)(W:ax)(h:jh W bb nm bt pb vp first)(f:bC W bt l)(d:(cJ l name).getD (.slice none 0 0)= .slice a n c):
 Calls prog 188 #[.pointer (some ⟨bb,0,none⟩),.string ⟨name.toArray⟩] W λe W'=>e= .returned (.bool (decide (0<n)))/\W' =W:=by
 have m:=aG.cell? (i:=3) h rfl;have j:=aB f;have k:=aB d;have b:decide ((0:Int)<(n:Int))=decide (0<n):=by rw[Xn];omega
 have g:=aB b;clear h f d b;go_enter func188,ntmps188;go_wp2_with (first|(at_lookup;refine mz _ rfl _ _ 139 rfl 9 138 Xy T0 (.slice none 0 0) (wa _) bt l rfl j.u name rfl _ k.u ?_)|fail)
 go_ret;exact⟨by rw[<-g.u];first|rfl|simp,rfl⟩
def j_ (a:List ag)(x:ag):List ag:=if x∈a then a else a++[x]
theorem GG {k:ag}:∀{mk:List ag},k∈mk->eK (dm mk) k (.agg #[])=dm mk
 |[],h=>by cases h
 |y::d,h=>by
  unfold dm;rw[Ug,eK];cases a:(y==k) with
  |true=>
   have:y=k:=by simpa using a
   subst this;simp
  |false=>
   have c:k∈d:=by
    rcases Ue.1 h with e|e
    ·subst e;simp at a
    ·exact e
   have b:=GG c;unfold dm at b;simp[b]
theorem Qk (a:List ag)(x:ag):eK (dm a) x (.agg #[])=dm (j_ a x):=by
 unfold j_;split
 ·next h=>exact GG h
 ·next h=>exact Am h
theorem Mv (a:List ag)(x:ag):(j_ a x).length<=a.length+1:=by
 unfold j_;split
 ·omega
 ·simp
theorem yq:∀(b a:List ag),(b.foldl j_ a).length<=a.length+b.length
 |[],_=>TD _
 |x::c,a=>by have d:=yq c (j_ a x);have:=Mv a x;rw[Ux,TK];omega
structure A9 (W:ax)(pb:Nat)(ph xs:List ag)(i:Nat)(wr:ax):Prop where
 tn:Tn (λk=>k=pb) W wr
 map:bC wr pb (dm ((xs.take i).foldl j_ ph))
theorem Ke (bb nm bt pb:Nat)(vp:ay)(first:ag)(f c:List ag)(a:Option Addr)(cap b r:Nat)(W:ax)(h:jh W bb nm bt pb vp first)(i:bC W pb (dm f))(A:0<c.length->a=some ⟨b,r,none⟩/\dV W b r c/\(∃p t,W.heap[b]?=some (Obj.cells p 9 t)))(S:f.length+c.length<=1073741824):
 Calls prog 229 #[.pointer (some ⟨bb,0,none⟩),.slice a c.length cap] W λe W'=>e= .returned (.tuple #[])/\bC W' pb (dm (c.foldl j_ f))/\Tn (λk=>k=pb) W W' :=by
 have K:=aB h;have N:=aB A;have L:bb≠pb:=mA h i;have z:Hid (A9 W pb f c 0 W):=⟨Tn.refl _ _,i⟩;have M:=aB i;clear h A i;go_enter func229,ntmps229;go_wp2_with fail
 go_loopw [8] (λo wr=>∃d:Nat,o= .int .i64 d/\d<=c.length/\Hid (A9 W pb f c d wr)) (λo _=>c.length-aS o)
 case atStart=>exact⟨0,rfl,by omega,z⟩
 case round=>
  clear z;obtain⟨d,rfl,Q,g⟩:=hrel;by_cases w:d<c.length
  ·have E:(d:Int)<c.length:=by omega
   have O:(0:Int)<=(d:Int):=by omega
   obtain⟨rfl,y,p,t,j⟩:=N.u (by omega);have G:b≠pb:=λe=>by obtain⟨P,aP,s,_⟩:=M.u;subst e;rw[j] at s;cases s
   have H:=(y.same (g.u.tn.block b (TN.1 j).1 G)) d c[d] (TH w);have R:=aG.cell? (i:=4) (aG.tn K.u g.u.tn L) rfl;have v:(c.take (d+1)).foldl j_ f=j_ ((c.take d).foldl j_ f) c[d]:=by rw[TW w,VX];rfl
   have F:=aB v;have I:=yq (c.take d) f;rw[Um] at I;clear y j v;unfold aK at H;generalize c[d]=x at*;go_wp2_with (first|(at_mapUpdate;refine pT _ rfl _ _ _ 140 rfl 9 316 VN T0 pb (dm ((c.take d).foldl j_ f)) rfl g.u.map (by unfold dm maxLen;rw[TR];omega) x rfl (.agg #[]) rfl ?_;intro B m q;rw[Qk] at m;have D:Hid (A9 W pb f c (d+1) B):=⟨g.u.tn.trans (lx q rfl),(by rw[F.u];exact m)⟩;clear m q)|fail)
   go_roundw
   case rel=>exact⟨d+1,by go_num,by omega,D⟩
   case measure=>simp only[aS];omega
  ·have J:d=c.length:=by omega
   subst J;have E:¬(c.length:Int)<c.length:=by omega
   have n:=g.u.map;rw[Us] at n;have C:=aB n;clear n;go_wp2_with fail
   go_end0
   exact⟨rfl,C.u,g.u.tn⟩
theorem Li (W:ax)(b:TypeId)(a:List ay):∃Z,Z=(((W.alloc (.map #[] 0)).alloc (.map #[] 0)).alloc (.map #[] 0)).alloc (.cells a.toArray b)/\bC Z W.heap.size []/\bC Z (W.heap.size+1) []/\bC Z (W.heap.size+2) []/\aG Z (W.heap.size+3) b a/\Below W.heap.size W Z/\Z.heap.size=W.heap.size+4:=by
 have j:(W.alloc (.map #[] 0)).heap.size=W.heap.size+1:=TM _ _;have d:((W.alloc (.map #[] 0)).alloc (.map #[] 0)).heap.size=W.heap.size+2:=by rw[TM,j]
 have e:(((W.alloc (.map #[] 0)).alloc (.map #[] 0)).alloc (.map #[] 0)).heap.size=W.heap.size+3:=by rw[TM,d]
 have m:=bC.jV W;have g:=bC.jV (W.alloc (.map #[] 0));have i:=bC.jV ((W.alloc (.map #[] 0)).alloc (.map #[] 0));have h:=aG.bA (((W.alloc (.map #[] 0)).alloc (.map #[] 0)).alloc (.map #[] 0)) b a;rw[j] at g;rw[d] at i;rw[e] at h;have k:=(TF _ (W.alloc (.map #[] 0))).alloc ak (.map #[] 0);have f:=(TF _ ((W.alloc (.map #[] 0)).alloc (.map #[] 0))).alloc ak (.map #[] 0);have c:=(TF _ (((W.alloc (.map #[] 0)).alloc (.map #[] 0)).alloc (.map #[] 0))).alloc ak (.cells a.toArray b);have n:=(((TF W.heap.size W).alloc ak (.map #[] 0)).alloc (by omega) (.map #[] 0)).alloc (by omega) (.map #[] 0);exact⟨_,rfl,((m.aE k).aE f).aE c,(g.aE f).aE c,i.aE c,h,n.alloc (by omega) _,by rw[TM,e]⟩
theorem Kq (W:ax):
 Calls prog 88 #[] W λe W'=>e= .returned (.pointer (some ⟨W.heap.size+3,0,none⟩))/\jh W' (W.heap.size+3) W.heap.size (W.heap.size+1) (W.heap.size+2) (.slice none 0 0) []/\bC W' W.heap.size (iE [])/\bC W' (W.heap.size+1) []/\bC W' (W.heap.size+2) (dm [])/\Below W.heap.size W W' /\W'.heap.size=W.heap.size+4:=by
 have k:= @XN prog;obtain⟨Z,b,g,f,d,a,h,c⟩:=Li W 142 [.map (some W.heap.size),.slice none 0 0,aK [],.map (some (W.heap.size+1)),.map (some (W.heap.size+2))];have i:Hid (jh Z (W.heap.size+3) W.heap.size (W.heap.size+1) (W.heap.size+2) (.slice none 0 0) []/\bC Z W.heap.size (iE [])/\bC Z (W.heap.size+1) []/\bC Z (W.heap.size+2) (dm [])/\Below W.heap.size W Z/\Z.heap.size=W.heap.size+4):=⟨a,g,f,d,h,c⟩;have j:=aB b;clear g f d a h c b;go_enter func88,ntmps88;go_wp2_with fail
 go_ret;have:=i.u;rw[j.u] at this;exact⟨rfl,this⟩
structure vi (W:ax)(wk bb nm bt pb bx bf bi:Nat)(vp ve v2 v3 v4 v5:ay)(first:ag)(l:df)(tg:ag->Bool)(ef:List bL)(fs:List aI)(aP:Int):Prop where
 row:aG W wk 193 [.pointer (some ⟨bb,0,none⟩),.pointer (some ⟨bx,0,none⟩),v2,v3,v4,v5]
 cV:jh W bb nm bt pb vp first
 ij:bC W bt l
 tg:∀name,∃a n c,(cJ l name).getD (.slice none 0 0)= .slice a n c/\tg name=decide (0<n)
 pw:PW W bx bf bi ve ef fs aP
 fh:c_ W
section
variable {W W' :ax} {wk bb nm bt pb bx bf bi:Nat} {vp ve v2 v3 v4 v5:ay} {first:ag} {l:df} {tg:ag->Bool} {ef:List bL} {fs:List aI} {aP:Int}
theorem vi.aE (h:vi W wk bb nm bt pb bx bf bi vp ve v2 v3 v4 v5 first l tg ef fs aP)(a:Below W.heap.size W W'):vi W' wk bb nm bt pb bx bf bi vp ve v2 v3 v4 v5 first l tg ef fs aP:=⟨h.row.aE a,aG.aE h.cV a,h.ij.aE a,h.tg,h.pw.aE a,h.fh.aE a⟩
def fU (fs:List aI)(tg:ag->Bool)(a:ag)(n:ag):Bool:=(Pl.look fs (dJ n a)).isSome||tg (dJ n a)
structure xZ (W:ax)(f:ag->Bool)(xs:List ag)(i:Nat)(wr:ax):Prop where
 aL:Below W.heap.size W wr
 pM:∀x∈xs.take i,f x=true
theorem BP (c:List ag)(f:ag)(a:Option Addr)(cap b I:Nat)(h:vi W wk bb nm bt pb bx bf bi vp ve v2 v3 v4 v5 first l tg ef fs aP)(O:0<c.length->a=some ⟨b,I,none⟩/\b<W.heap.size/\dV W b I c)(hn:c.length<=1073741824)(L:∀n∈c,n.length<=4294967200/\n.length+Lib.countB ⟨n.toArray⟩ ⟨#[37]⟩*f.length<=140737488355328):
 Calls prog 141 #[.pointer (some ⟨wk,0,none⟩),.slice a c.length cap,.string ⟨f.toArray⟩] W λe W'=>e= .returned (.bool (c.all (fU fs tg f)))/\Below W.heap.size W W' :=by
 have HA:=aB O;have HL:=aB L;have U:=aB h;have N:Hid (xZ W (fU fs tg f) c 0 W):=⟨TF _ _,by simp⟩;clear O L h;go_enter func141,ntmps141;go_wp2_with fail
 go_loopw [12] (λE wr=>∃d:Nat,E= .int .i64 d/\d<=c.length/\Hid (xZ W (fU fs tg f) c d wr)) (λE _=>c.length-aS E)
 case atStart=>exact⟨0,rfl,by omega,N⟩
 case round=>
  clear N;obtain⟨d,rfl,ab,j⟩:=hrel;by_cases B:d<c.length
  ·have Q:(d:Int)<c.length:=by omega
   have t0:(0:Int)<=(d:Int):=by omega
   obtain⟨rfl,R,M⟩:=HA.u (by omega);have T:=M.aL j.u.aL R d c[d] (TH B);obtain⟨Y,Z⟩:=HL.u c[d] (TV B);have i:=aB (U.u.aE j.u.aL);have D:=j.u.aL.size;have z:Hid (fU fs tg f c[d]=false->c.all (fU fs tg f)=false):=λe=>by show _=_;rw[ZR];exact⟨c[d],TV B,by rw[e];decide⟩
   have v:Hid (fU fs tg f c[d]=true->∀x∈c.take (d+1),fU fs tg f x=true):=λe x A=>by
    rw[TW B] at A;rcases T4.1 A with h1|h1
    ·exact j.u.pM x h1
    ·rw[TL] at h1;subst h1;exact e
   clear M;generalize c[d]=x at*;have r:Hid (fU fs tg f x=((Pl.look fs (dJ x f)).isSome||tg (dJ x f))):=rfl;have t:=aB (E5 x f wr i.u.fh Y Z);obtain⟨X,S,tc,G,J⟩:=i.u.tg (dJ x f);have s:=aB (λk (g:Below wr.heap.size wr k)=>GX bx bf bi ve ef fs aP (dJ x f) k (i.u.pw.aE g));have w:=aB (λk (g:Below wr.heap.size wr k)=>J4 bb nm bt pb vp first l (dJ x f) X S tc k (aG.aE i.u.cV g) (i.u.ij.aE g) G);rw[<-J] at w;clear G J;generalize dJ x f=y at*;generalize (Pl.look fs y).isSome=p1 at*;generalize tg y=V at*;unfold aK at T;cases p1 with
   |true=>
    have q:=aB (v.u (by rw[r.u];rfl));clear z v r;go_wp2_with (first|(go_at_call 187;refine t.u.mono ?_;clear t;rintro e k ⟨rfl,g⟩;have K:=aG.cell? (i:=1) (i.u.row.aE g) rfl;have m:=aB g;clear g)|(go_at_call 174;refine(s.u _ m.u).mono ?_;clear s;rintro e C ⟨rfl,o⟩;have F:Hid (xZ W (fU fs tg f) c (d+1) C):=⟨j.u.aL.trans ((m.u.tr o).mono D),q.u⟩;clear o)|fail)
    go_roundw
    case rel=>exact⟨d+1,by go_num,by omega,F⟩
    case measure=>simp only[aS];omega
   |false=>
    cases V with
    |true=>
     have q:=aB (v.u (by rw[r.u];rfl));clear z v r;go_wp2_with (first|(go_at_call 187;refine t.u.mono ?_;clear t;rintro e k ⟨rfl,g⟩;have K:=aG.cell? (i:=1) (i.u.row.aE g) rfl;have m:=aB g;clear g)|(go_at_call 174;refine(s.u _ m.u).mono ?_;clear s;rintro e C ⟨rfl,o⟩;have p:=aB (m.u.tr o);have P:=aG.cell? (i:=0) (i.u.row.aE p.u) rfl;clear o)|(go_at_call 188;refine(w.u _ p.u).mono ?_;clear w;rintro e H ⟨rfl,rfl⟩;have F:Hid (xZ W (fU fs tg f) c (d+1) H):=⟨j.u.aL.trans (p.u.mono D),q.u⟩)|fail)
     go_roundw
     case rel=>exact⟨d+1,by go_num,by omega,F⟩
     case measure=>simp only[aS];omega
    |false=>
     have q:=aB (z.u (by rw[r.u];rfl));clear z v r;go_wp2_with (first|(go_at_call 187;refine t.u.mono ?_;clear t;rintro e k ⟨rfl,g⟩;have K:=aG.cell? (i:=1) (i.u.row.aE g) rfl;have m:=aB g;clear g)|(go_at_call 174;refine(s.u _ m.u).mono ?_;clear s;rintro e C ⟨rfl,o⟩;have p:=aB (m.u.tr o);have P:=aG.cell? (i:=0) (i.u.row.aE p.u) rfl;clear o)|(go_at_call 188;refine(w.u _ p.u).mono ?_;clear w;rintro e H ⟨rfl,rfl⟩)|fail)
     go_ret;exact⟨by rw[q.u];rfl,j.u.aL.trans (p.u.mono D)⟩
  ·have aa:d=c.length:=by omega
   subst aa;have Q:¬(c.length:Int)<c.length:=by omega
   have q:Hid (c.all (fU fs tg f)=true):=by show _=_;rw[Xo];exact λx A=>j.u.pM x (by rw[Us];exact A)
   go_wp2_with fail
   go_ret;exact⟨by rw[q.u];rfl,j.u.aL⟩
end
