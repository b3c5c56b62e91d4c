/- . -/
import Derived.Test.YtjelacjggijmfaaGreatDoorYR6
import Derived.Deep.RegionHeld3
import Derived.Deep.DrawnRows
set_option linter.all false
set_option maxHeartbeats 4000000
set_option maxRecDepth 20000
namespace Go.Proofs.YtjelacjggijmfaaGreatDoor
open Pl Mk Cp Proofs.Tryz
section
variable {d:Nat->Prop}{c:ib}{w w' b g Z:ay}{bx bf bi n cp B:Nat}{ve vs vg a j i f:az}{ef:ga}{fs:fy}{fl:Nat->Bool}{m h:Int}{ss:fv}{st:jb}{X:Wd}{k:f'}{l:aj}
open RowKit MapKept ChangeMaps Maps
variable {e:TypeId}
section
attribute [local go_sem↓] G2 G3
structure Tn(p:Nat->Prop)(w w':ay):Prop where
 os:w'.os=w.os
 tape:w'.tape=w.tape
 output:w'.output=w.output
 size:w.heap.size<=w'.heap.size
 block:∀k,k<w.heap.size->¬p k->w'.heap[k]?=w.heap[k]?
def Tn.refl(a:Nat->Prop)(w:ay):Tn a w w:=⟨rfl,rfl,rfl,X0 _,λ_ _ _=>rfl⟩
def Tn.trans(h:Tn d w b)(e:Tn d b w'):Tn d w w':=⟨e.os.trans h.os,e.tape.trans h.tape,e.output.trans h.output,Ye h.size e.size,λk g f=>(e.block k (Yo g h.size) f).trans (h.block k g f)⟩
def Tn.aD{p:Nat->Prop}(h:μ w w'):Tn p w w':=⟨h.os,h.tape,h.output,h.size,λk a _=>h.block k a⟩
def Tn.mono{q:Nat->Prop}(h:Tn d w w')(a:∀k,d k->q k):Tn q w w':=⟨h.os,h.tape,h.output,h.size,λk b c=>h.block k b (λe=>c (a k e))⟩
def Tn.set{p:Nat->Prop}(w:ay)(a:Addr)(u:az)(c:p a.block):Tn p w (w.setCell a u):=
 have b:=(X5 0 w).setCell (p:=a) (Yh _) u
 ⟨b.os,b.tape,b.output,b.size,λk _ d=>Ys w a u k (λe=>d (by rw[e];exact c))⟩
def Tn.grown{p:Nat->Prop}(h:w.grownBy w' c)(b:∀k,c=some k->p k):Tn p w w':=⟨h.os,h.tape,h.output,h.size,λk d a=>h.block k d (λe=>a (b k e.symm))⟩
def Tn.aP{p:Nat->Prop}(h:Tn p w w'){B:Nat}(c:B<=w.heap.size)(a:∀k,p k->B<=k):Below B w w':=⟨h.os,h.tape,h.output,h.size,λk b=>h.block k (by omega) (λe=>by have:=a k e;omega)⟩
def aF.tn(h:aF w bx e k)(c:Tn d w w')(a:¬d bx):aF w' bx e k:=(c.block bx h.lt a).trans h
def bF.tn{a:dr}(h:bF w bx a)(e:Tn d w w')(c:¬d bx):bF w' bx a:=h.lV (e.block bx h.lt c)
structure PW(w:ay)(bx bf bi:Nat)(ve:az)(ef:ga)(fs:fy)(aQ:Int):Prop where
 row:aF w bx 182 [.map (some bf),ve,.map (some bi),ι aQ]
 aW:bF w bf (dw fs)
 first:∃l,bF w bi l/\nZ ef l
 xN:bf≠bx
 xL:bi≠bx
 zP:bf≠bi
section
variable {aQ:Int}
def PW.tn(h:PW w bx bf bi ve ef fs aQ)(a:Tn d w w')(f:¬d bx)(b:¬d bf)(c:¬d bi):PW w' bx bf bi ve ef fs aQ:=by have⟨i,e,g⟩:=h.first;exact⟨h.row.tn a f,h.aW.tn a b,⟨i,e.tn a c,g⟩,h.xN,h.xL,h.zP⟩
def PW.aD(h:PW w bx bf bi ve ef fs aQ)(a:μ w w'):PW w' bx bf bi ve ef fs aQ:=h.tn (Tn.aD (p:=λ_=>False) a) id id id
end
def z8(u:fy)(n:ga)(a c:fY)(y b f g L k j:Nat)(m:Int)(w:ay)(r:0<u.length->a=some ⟨b,f,none⟩)(x:eJ w b f u)(C:b<w.heap.size)(J:u.length<=8388608)(v:0<n.length->c=some ⟨k,j,none⟩)(t:kX w L k j n)(o:L<=w.heap.size)(D:n.length<=8388608):
 Calls prog 61 #[.slice a u.length y,.slice c n.length g,ι m] w λe w'=>∃bx bf bi,e=.returned (π bx)/\PW w' bx bf bi (.slice c n.length g) n (u.foldl Pl.bA []) m/\μ w w'/\w.heap.size<=bx/\w.heap.size<=bf/\w.heap.size<=bi:=by
 have H:=λW (l:μ w W)=>LK n c g L k j W v (t.aP (l.mono o)) (Ye o l.size) D;go_in;go_wp2_with (first|(go_at_call 85;refine κ (Mg u a y b f w r x C J) λh⟨p,A⟩=>?_)|(go_at_call 86;refine κ (H _ A) λd⟨q,z⟩=>?_))
 go_ret;have:=p.lt;have⟨G,s,F⟩:=q;have:=s.lt;have i:μ d (d.alloc (.cells #[.map (some w.heap.size),.slice c n.length g,.map (some h.heap.size),ι m] 182)):=ak d _;refine⟨d.heap.size,w.heap.size,h.heap.size,rfl,⟨aF.bq d 182 [.map (some w.heap.size),.slice c n.length g,.map (some h.heap.size),ι m],(p.aD z).aD i,⟨G,s.aD i,F⟩,by omega,by omega,by omega⟩,?_,by omega,X0 _,by omega⟩;exact A.trans ((z.mono A.size).trans (i.mono (by omega)))
def Cn(j i k:Nat)(l:az)(o:ga)(n:fy)(m:Int)(a:aj)(w:ay)(h:PW w j i k l o n m):
 Calls prog 174 #[π j,.string ⟨a.toArray⟩] w λe w'=>e=.returned (.bool (Pl.look n a).isSome)/\μ w w':=by
 have g:=h.row.cell 0 (by simp);simp only[X6]at g;have d:=h.aW;cases b:Pl.look n a with
 |some f=>
  have c:Hid (cG (dw n) a=some (fC f)):=by show _=_;rw[l_,b];rfl
  go_in;go_wp2_with (at_lookup;refine nh _ rfl _ _ 177 rfl 9 65 Ze Yj _ (lX) i (dw n) rfl d a rfl (fC f) c ?_;unfold fC)
  go_ret;exact⟨rfl,ak w _⟩
 |none=>
  have c:Hid (cG (dw n) a=none):=by show _=_;rw[l_,b];rfl
  go_in;go_wp2_with (at_lookup;refine nj _ rfl _ _ 177 rfl 9 65 Ze Yj _ (lX) i (dw n) rfl d a rfl c ?_)
  go_ret;exact⟨rfl,ak w _⟩
def Pm(b d f:Nat)(g:az)(i:ga)(j:fy)(c:Int)(w:ay)(h:PW w b d f g i j c):
 Calls prog 84 #[π b] w λe w'=>e=.returned (ι c)/\w=w':=by
 have a:=h.row.cell 3 (by simp);simp only[X6,X7]at a;go_in;go_wp2
 go_ret;exact⟨rfl,rfl⟩
end
section
attribute [local go_sem↓] G2 G3
def QN(p n t:Nat)(u:az)(x:ga)(v:fy)(r:Int)(s a:aj)(w:ay)(h:PW w p n t u x v r):
 Calls prog 175 #[π p,.string ⟨s.toArray⟩,.string ⟨a.toArray⟩] w λe w'=>e=.returned (.bool (h_ v s a))/\μ w w':=by
 have o:=h.row.cell 0 (by simp);simp only[X6]at o;have:=h.row.lt;have j:=h.aW;have m:∀f,bF (w.alloc f) n (dw v):=λf=>h.aW.aD (ak w f);have l:∀f q,Below w.heap.size w ((w.alloc f).alloc q):=λf q=>(ak w f).alloc (by rw[X_];omega) q;unfold h_;cases c:Pl.look v s with
 |some k=>
  cases b:Pl.look v a with
  |some i=>
   have d:Hid (cG (dw v) s=some (fC k)):=by show _=_;rw[l_,c];rfl
   have g:Hid (cG (dw v) a=some (fC i)):=by show _=_;rw[l_,b];rfl
   go_in;go_wp2_with (first|(at_lookup;refine nh _ rfl (.tmp 15) (.tmp 16) 177 rfl 9 65 Ze Yj _ (lX) n (dw v) rfl j s rfl (fC k) d ?_;unfold fC)|(at_lookup;refine nh _ rfl (.tmp 24) (.tmp 25) 177 rfl 9 65 Ze Yj _ (lX) n (dw v) rfl (m _) a rfl (fC i) g ?_;unfold fC))
   all_goals go_ret
   all_goals exact⟨by first|rfl|(simp only[gt_iff_lt]),l _ _⟩
  |none=>
   have d:Hid (cG (dw v) s=some (fC k)):=by show _=_;rw[l_,c];rfl
   have g:Hid (cG (dw v) a=none):=by show _=_;rw[l_,b];rfl
   go_in;go_wp2_with (first|(at_lookup;refine nh _ rfl (.tmp 15) (.tmp 16) 177 rfl 9 65 Ze Yj _ (lX) n (dw v) rfl j s rfl (fC k) d ?_;unfold fC)|(at_lookup;refine nj _ rfl (.tmp 24) (.tmp 25) 177 rfl 9 65 Ze Yj _ (lX) n (dw v) rfl (m _) a rfl g ?_))
   all_goals go_ret
   all_goals exact⟨rfl,l _ _⟩
 |none=>
  cases b:Pl.look v a with
  |some i=>
   have d:Hid (cG (dw v) s=none):=by show _=_;rw[l_,c];rfl
   have g:Hid (cG (dw v) a=some (fC i)):=by show _=_;rw[l_,b];rfl
   go_in;go_wp2_with (first|(at_lookup;refine nj _ rfl (.tmp 15) (.tmp 16) 177 rfl 9 65 Ze Yj _ (lX) n (dw v) rfl j s rfl d ?_)|(at_lookup;refine nh _ rfl (.tmp 24) (.tmp 25) 177 rfl 9 65 Ze Yj _ (lX) n (dw v) rfl (m _) a rfl (fC i) g ?_;unfold fC))
   all_goals go_ret
   all_goals exact⟨rfl,l _ _⟩
  |none=>
   have d:Hid (cG (dw v) s=none):=by show _=_;rw[l_,c];rfl
   have g:Hid (cG (dw v) a=none):=by show _=_;rw[l_,b];rfl
   go_in;go_wp2_with (first|(at_lookup;refine nj _ rfl (.tmp 15) (.tmp 16) 177 rfl 9 65 Ze Yj _ (lX) n (dw v) rfl j s rfl d ?_)|(at_lookup;refine nj _ rfl (.tmp 24) (.tmp 25) 177 rfl 9 65 Ze Yj _ (lX) n (dw v) rfl (m _) a rfl g ?_))
   all_goals go_ret
   all_goals exact⟨rfl,l _ _⟩
end
section
attribute [local go_sem↓] G2 G3
def Pt(h:ef.findIdx? (λe=>e.dg==l)=none):∀a (b:a<ef.length),ef[a].dg≠l:=λa b e=>by rw[Zg]at h;have:=h ef[a] (Ym b);simp[e]at this
def OM(h:ef.findIdx? (λe=>e.dg==l)=some bx):∃d:bx<ef.length,(∀a (f:a<ef.length),a<bx->ef[a].dg≠l)/\ef[bx].dg=l:=by rw[YM]at h;have⟨d,i,g⟩:=h;exact⟨d,λa f j e=>by have:=g a j;simp[e]at this,by simpa using i⟩
structure Dj(bx bf bi:Nat)(ve:az)(ef:ga)(X:Wd)(w w':ay):Prop where
 pw:PW w' bx bf bi ve ef X.aW X.aQ
 tn:Tn (λk=>k=bx\/k=bf) w w'
def PW.put{f:aJ}(h:PW w bx bf bi ve ef fs m)(c:bF b bf (fh (dw fs) f.aL (fC f)))(d:w.mapTurned b bf):PW b bx bf bi ve ef (fR fs f) m:=by have⟨l,i,j⟩:=h.first;have a:Tn (λk=>k=bf) w b:=Tn.grown d.grown (λk e=>by cases e;rfl);rw[Ku]at c;exact⟨h.row.tn a (λe=>h.xN e.symm),c,⟨l,i.tn a (λe=>h.zP e.symm),j⟩,h.xN,h.xL,h.zP⟩
def PW.Xg(h:PW w bx bf bi ve ef fs m)(c:Int):PW (w.ψ bx 3 (ι c)) bx bf bi ve ef fs c:=by have⟨d,a,b⟩:=h.first;exact⟨h.row.set 3 (ι c),h.aW.setCell h.xN _,⟨d,a.setCell h.xL _,b⟩,h.xN,h.xL,h.zP⟩
def Te(c:aj)(S:fv)(ef:ga)(L Z bf bi d q ce:Nat)(R:fY)(X:Wd)(w:ay)(h:PW w Z bf bi (.slice R ef.length ce) ef X.aW X.aQ)(hx:X.exit=0)(T:0<ef.length->R=some (η d q))(D:kX w L d q ef)(aX:L<=Z)(aZ:L<=bf)(J:Fit S X.aW)(hS:S.length<=8388608)(N:∀e∈ef,∀f∈e.cE,f.aL∈S)(aM:ef.length<=8388608)(O:∀e∈ef,e.cE.length<=8388608):
 Calls prog 217 #[π Z,σ c] w λe w'=>e=.returned (ι (eI ef X c).exit)/\Dj Z bf bi (.slice R ef.length ce) ef (eI ef X c) w w':=by
 have c2:=h.row.cell 2 (by simp);have c3:=h.row.cell 3 (by simp);have:=h.row.frozen 3;simp only[X6,X7]at c2 c3;have:=h.row.lt;have⟨o,Q,U⟩:=h.first;have E:=h.Xg (wrap64 (X.aQ+1));have s:Tn (λk=>k=Z\/k=bf) w (w.ψ Z 3 (ι (wrap64 (X.aQ+1)))):=Tn.set w (η Z 3) _ (.inl rfl);have V:bF (w.ψ Z 3 (ι (wrap64 (X.aQ+1)))) bi o:=Q.setCell h.xL _;have j:=U.2 c;cases i:ef.findIdx? (λe=>e.dg==c) with
 |none=>
  rw[i]at j;have C:Hid (cG o c=none):=j;rw[Hv (Pt i)];rw[hx];go_in;go_wp2_with (at_lookup;refine nj _ rfl _ _ 179 rfl 9 3 rV Yj _ (yN) bi o rfl V c rfl C ?_)
  go_ret;exact⟨rfl,E,s⟩
 |some a=>
  rw[i]at j;have C:Hid (cG o c=some (ι (a:Nat))):=j;have⟨v,ah,aa⟩:=OM i;rw[Gv v ah aa];obtain rfl:=T (by omega);have y:=D.2 a v;have Y:=D.1;have:=O ef[a] (Ym v);have av:=N ef[a] (Ym v)
  have⟨aw,cw,bw,ow,z,q2,m,q4⟩:=y.cE;have ab:Hid (∀W,Tn (λk=>k=Z\/k=bf) w W->W.χ d (q+a*3+1)=some (.slice aw ef[a].cE.length cw)/\eJ W bw ow ef[a].cE/\W.χ d (q+a*3+2)=some (ι ef[a].exit)):=λW ht=>by have G:=ht.aP (B:=L) (by omega) (λk e=>by rcases e with rfl|rfl<;>omega);exact⟨(G.cell (p:=η d _) Y).trans z,m.aP G q4,(G.cell (p:=η d _) Y).trans y.exit⟩
  have au:=(ab _ s).1;have aA:=aC q2;have af:=E.row;have A:=af.cell 1 (by simp);simp only[X6,X7]at A;generalize aO:ef[a]=ei at*;go_in;go_wp2_with (at_lookup;refine nh _ rfl _ _ 179 rfl 9 3 rV Yj _ (yN) bi o rfl V c rfl _ C ?_)
  generalize ag:wrap64 (X.aQ+1)=n at*;have ao:=aC ag;unfold World.ψ at*;generalize w.setCell (η Z 3) (ι n)=W1 at*;go_loopw [36] (λH wr=>∃k:Nat,H=ι k/\k<=ei.cE.length/\(PW wr Z bf bi (.slice (some (η d q)) ef.length ce) ef ((ei.cE.take k).foldl (λb f=>fR b (jh n f)) X.aW) n)/\(Tn (λk=>k=Z\/k=bf) w wr)) (λH _=>ei.cE.length-aV H)
  case atStart=>exact⟨0,rfl,Yh _,E,s⟩
  obtain⟨k,rfl,aS,g,M⟩:=hrel;have⟨z,m,q5⟩:=ab _ M;by_cases hk:k<ei.cE.length
  ·obtain rfl:=aA (by omega);have⟨p0,p1,p2⟩:=m k hk;have an:=aC (GY n X.aW ei.cE k hk);have ai:Fit S ((ei.cE.take k).foldl (λb f=>fR b (jh n f)) X.aW):=Fit.vP n _ J (λf hf=>av f (adQ hf));have:=ai.len;generalize (ei.cE.take k).foldl (λb f=>fR b (jh n f)) X.aW=b at*;generalize aq:ei.cE[k]=fk at*;unfold aK at p0 p1
   have x3:=g.row.cell 3 (by simp);have:=g.row.lt;simp only[X6,X7]at x3;have aG:(dw b).length<maxLen:=by unfold dw maxLen;rw[Yk];omega
   have l:=aF.bq wr 65 [σ fk.aL,σ fk.aU,ι n];have I:μ wr (wr.alloc (.cells #[σ fk.aL,σ fk.aU,ι n] 65)):=ak wr _;have K:=g.aD I;have ar:=M.trans (Tn.aD (p:=λk=>k=Z\/k=bf) I);have:=g.aW.lt;have r0:=l.cell 0 (by simp);have r1:=l.cell 1 (by simp);have r2:=l.cell 2 (by simp);simp only[X6,X7]at r0 r1 r2;have y0:=K.row.cell 0 (by simp);simp only[X6]at y0;as_aux_lemma=>
    go_wp2
    generalize wr.alloc (.cells #[σ fk.aL,σ fk.aU,ι n] 65)=x at*;have⟨w1,ac,ad,r⟩:=(show bF x.drew bf (dw b) from K.aW).put (P:=prog) (t:=177) Ze Yj aG fk.aL (fC (jh n fk));unfold aK fC jh at ac;simp only at ac;have al:=PW.put (f:=jh n fk) (K.aD (X5 _ x).drew) ad r;have aH:=(ar.trans (Tn.aD (X5 _ x).drew)).trans (Tn.grown (p:=λk=>k=Z\/k=bf) r.grown (λk e=>by cases e;exact .inr rfl));have F:=(show aF x.drew wr.heap.size _ _ from l).tn (Tn.grown (p:=λk=>k=bf) r.grown (λk e=>by cases e;rfl)) (by omega);have z0:=F.cell 0 (by simp);have z1:=F.cell 1 (by simp);have z2:=F.cell 2 (by simp);have z3:=al.row.cell 0 (by simp);simp only[X6,X7]at z0 z1 z2 z3;go_region_held3 (λw'=>w'.χ Z 0=some (.map (some bf))/\w'.χ wr.heap.size 0=some (σ fk.aL)/\w'.χ wr.heap.size 1=some (σ fk.aU)/\w'.χ wr.heap.size 2=some (ι n)) (go_keep) (fail)
    all_goals go_wp2
    all_goals go_roundw
    all_goals first
     |exact⟨k+1,by go_num,by omega,by rw[an.u];exact al,aH⟩
     |(simp only[aV];omega)
  have am:ei.cE.take k=ei.cE:=YF (by omega);rw[am]at g;have A:=g.row.cell 1 (by simp);simp only[X6,X7]at A;go_wp2
  go_ret;obtain rfl:=ao;exact⟨rfl,g,M⟩
end
def fI(b:Nat)(g:fY)(n f:Nat)(c:az)(h:Nat->Bool)(e:Nat)(d:az)(m:Int):f':= π b:: .slice g n f::c::((List.range 256).map (λa=> .bool (h a))++[ι e,d,ι m])
section
variable {ap:fY}{go:Nat}
def EP(a:Nat)(b:a<256):(fI bx ap n cp vs fl go vg m)[3+a]?=some (.bool (fl a)):=by rw[show 3+a=a+1+1+1 by omega];unfold fI;simp only[aeW];rw[Zh (by simpa using b)];simp[b]
def pE(k:Nat):(fI bx ap n cp vs fl go vg m)[259+k]?=[ι go,vg,ι m][k]?:=by rw[show 259+k=256+k+1+1+1 by omega];unfold fI;simp only[aeW];rw[YH (by simp)];simp
def NJ:(fI bx ap n cp vs fl go vg m).set 2 ve=fI bx ap n cp ve fl go vg m:=rfl
def Nk(a:Nat)(c:a<256):(fI bx ap n cp vs fl go vg m).set (3+a) (.bool true)=fI bx ap n cp vs (xD fl a) go vg m:=by
 rw[show 3+a=a+1+1+1 by omega];unfold fI;simp only[Y0];rw[adR _ _ (by simpa using c)];congr 4;apply aco
 ·simp
 intro b f d;rw[aeX,YT,YT,G'];unfold xD;by_cases e:a=b
 ·subst e;simp
 rw[Yb e,Yb (λh:b=a=>e h.symm)]
def Aa(k:Nat):(fI bx ap n cp vs fl go vg m).set (259+k) ve=π bx:: .slice ap n cp::vs::((List.range 256).map (λa=> .bool (fl a))++[ι go,vg,ι m].set k ve):=by rw[show 259+k=256+k+1+1+1 by omega];unfold fI;simp only[Y0];rw[Zc _ _ (by simp)];simp
def M':(fI bx ap n cp vs fl go vg m).set 259 (ι bf)=fI bx ap n cp vs fl bf vg m:=Aa 0
def LU:(fI bx ap n cp vs fl go vg m).set 260 ve=fI bx ap n cp vs fl go ve m:=Aa 1
def Ma:(fI bx ap n cp vs fl go vg m).set 261 (ι h)=fI bx ap n cp vs fl go vg h:=Aa 2
end
def aF.cell?(h:aF w bx e k){i:Nat}{v:az}(c:k[i]?=some v):w.cell? ⟨bx,i,none⟩=some v:=by obtain⟨a,rfl⟩:=Yl.1 c;exact h.cell i a
structure MM(w:ay)(B bm bx bf bi:Nat)(ap:fY)(cp:Nat)(ss:fv)(ve:az)(ef:ga)(vs vg:az)(st:jb)(fl:Nat->Bool)(go:Nat)(X:Wd):Prop where
 row:aF w bm 176 (fI bx ap ss.length cp vs fl go vg X.exit)
 pw:PW w bx bf bi ve ef X.aW X.aQ
 a_:∃b,(0<ss.length->ap=some ⟨b,0,none⟩/\b<B/\b≠bm/\b≠bx/\b≠bf)/\nU w b 0 ss
 ia:w.ownsRow B 4 1 vs st.length (st.map Value.bool)
 gz:w.ownsRow B 9 1 vg X.aI.length (X.aI.map aK)
 lm:bm<B
 lx:bx<B
 lf:bf<B
 li:bi<B
 lw:B<=w.heap.size
 n1:bm≠bx
 n2:bm≠bf
 n3:bm≠bi
section
variable {bm:Nat}{ap:fY}{go:Nat}
def MM.dd(h:MM w B bm bx bf bi ap cp ss ve ef vs vg st fl go X)(d:0<ss.length):∃b,ap=some ⟨b,0,none⟩/\∀n (a:n<ss.length),w.cell? ⟨b,n,none⟩=some (σ ss[n]):=by have⟨b,c,e⟩:=h.a_;refine⟨b,(c d).1,λn a=>?_⟩;have:=e n a;rw[YO]at this;exact this
def MM.aD(h:MM w B bm bx bf bi ap cp ss ve ef vs vg st fl go X)(a:μ w Z):MM Z B bm bx bf bi ap cp ss ve ef vs vg st fl go X:=by obtain⟨b,d,g⟩:=h.a_;have e:=h.lw;exact⟨h.row.aD a,h.pw.aD a,⟨b,d,sQ g (λf=>a.block b (by have:=(d f).2.1;omega))⟩,bI h.ia (λk c=>a.block k (h.ia.lt k c).2),bI h.gz (λk c=>a.block k (h.gz.lt k c).2),h.lm,h.lx,h.lf,h.li,Ye e a.size,h.n1,h.n2,h.n3⟩
def pS(w:ay)(v a:az):Prop:=∀k,a.ownBlock=some k->v.ownBlock=some k\/w.heap.size<=k
structure cB(bm bx bf:Nat)(vs vg vs' vg':az)(w w':ay):Prop where
 tn:Tn (λk=>k=bm\/k=bx\/k=bf\/some k=vs.ownBlock\/some k=vg.ownBlock) w w'
 fs:pS w vs vs'
 fg:pS w vg vg'
def cB.trans(h:cB bm bx bf vs vg a j w b)(c:cB bm bx bf a j i f b g):cB bm bx bf vs vg i f w g:=by
 have m:=h.tn.size;refine⟨⟨c.tn.os.trans h.tn.os,c.tn.tape.trans h.tn.tape,c.tn.output.trans h.tn.output,Ye m c.tn.size,λk d l=>(c.tn.block k (by omega) (λe=>l ?_)).trans (h.tn.block k d l)⟩,λk d=>?_,λk d=>?_⟩
 ·rcases e with e|e|e|e|e
  ·exact .inl e
  ·exact .inr (.inl e)
  ·exact .inr (.inr (.inl e))
  ·rcases h.fs k e.symm with n |n
   ·exact .inr (.inr (.inr (.inl n.symm)))
   omega
  rcases h.fg k e.symm with n |n
  ·exact .inr (.inr (.inr (.inr n.symm)))
  omega
 ·rcases c.fs k d with e|e
  ·exact h.fs k e
  exact .inr (by omega)
 rcases c.fg k d with e|e
 ·exact h.fg k e
 exact .inr (by omega)
def cB.aD(a:μ w Z):cB bm bx bf vs vg vs vg w Z:=⟨Tn.aD a,λ_ e=> .inl e,λ_ e=> .inl e⟩
def MM.cY{st':jb}(h:MM w B bm bx bf bi ap cp ss ve ef vs vg st fl go X)(d:w.grownBy Z c)(g:c=none\/c=vs.ownBlock)(m:Z.ownsRow B 4 1 a st'.length (st'.map Value.bool))(s:pS w vs a):
 MM (Z.setCell ⟨bm,2,none⟩ a) B bm bx bf bi ap cp ss ve ef a vg st' fl go X/\cB bm bx bf vs vg a vg w (Z.setCell ⟨bm,2,none⟩ a):=by
 have⟨b,j,x⟩:=h.a_;have f:=h.lm;have z:=h.lx;have C:=h.lf;have t:=h.li;have y:=h.lw;have r:∀k,c=some k->B<=k:=λk e=>by
  obtain rfl|rfl:=g
  ·cases e
  exact(h.ia.lt k e).1
 have u:∀k,k<B->Z.heap[k]?=w.heap[k]?:=λk p=>d.block k (by omega) (λe=>by have:=r k e.symm;omega);have o:Z.ownsRow B 9 1 vg X.aI.length (X.aI.map aK):=by
  obtain rfl|rfl:=g
  ·exact Y' h.gz d (by cases e:vg.ownBlock with|none=>exact .inl rfl|some q=>exact .inr (by simp))
  obtain e|e:=mc h.gz h.ia (by decide)
  ·exact Y' h.gz d (.inl e)
  exact Y' h.gz d (.inr e)
 have i:Tn (λk=>B<=k\/k=bm) w (Z.setCell ⟨bm,2,none⟩ a):=(Tn.grown d (λk e=> .inl (r k e))).trans (Tn.set Z ⟨bm,2,none⟩ a (.inr rfl));have v:Tn (λk=>some k=vs.ownBlock\/k=bm) w (Z.setCell ⟨bm,2,none⟩ a):=(Tn.grown d (λk e=> .inl (by obtain rfl|rfl:=g;cases e;exact e.symm))).trans (Tn.set Z ⟨bm,2,none⟩ a (.inr rfl));refine⟨⟨?_,h.pw.tn i (by have:=h.n1;omega) (by have:=h.n2;omega) (by have:=h.n3;omega),⟨b,j,sQ x (λl=>(i.block b (by have:=(j l).2.1;omega) (by have:=(j l).2;omega)))⟩,cP m (cQ m f) 2 _,cP o (cQ o f) 2 _,f,z,C,t,Ye y i.size,h.n1,h.n2,h.n3⟩,v.mono (λk e=>e.elim (λe=> .inr (.inr (.inr (.inl e)))) .inl),s,λ_ e=> .inl e⟩;have A:aF Z bm 176 (fI bx ap ss.length cp vs fl go vg X.exit):=(u bm f).trans h.row;have:=A.set 2 a;rw[NJ]at this;exact this
def MM.mark(h:MM w B bm bx bf bi ap cp ss ve ef vs vg st fl go X)(a:Nat)(j:a<256):MM (w.ψ bm (3+a) (.bool true)) B bm bx bf bi ap cp ss ve ef vs vg st (xD fl a) go X/\cB bm bx bf vs vg vs vg w (w.ψ bm (3+a) (.bool true)):=by have⟨b,f,i⟩:=h.a_;have d:=h.lm;have c:Tn (λk=>k=bm) w (w.ψ bm (3+a) (.bool true)):=Tn.set w (η bm (3+a)) _ rfl;refine⟨⟨?_,h.pw.tn c (λe=>h.n1 e.symm) (λe=>h.n2 e.symm) (λe=>h.n3 e.symm),⟨b,f,sQ i (λg=>(c.block b (by have:=(f g).2.1;have:=h.lw;omega) (by have:=(f g).2;omega)))⟩,cP h.ia (cQ h.ia d) _ _,cP h.gz (cQ h.gz d) _ _,d,h.lx,h.lf,h.li,Ye h.lw c.size,h.n1,h.n2,h.n3⟩,c.mono (λk e=> .inl e),λ_ e=> .inl e,λ_ e=> .inl e⟩;have:=h.row.set (3+a) (.bool true);rw[Nk a j]at this;exact this
def MM.Xj(h:MM w B bm bx bf bi ap cp ss ve ef vs vg st fl go X)(a:Nat):MM (w.ψ bm 259 (ι a)) B bm bx bf bi ap cp ss ve ef vs vg st fl a X/\cB bm bx bf vs vg vs vg w (w.ψ bm 259 (ι a)):=by have⟨b,f,i⟩:=h.a_;have d:=h.lm;have c:Tn (λk=>k=bm) w (w.ψ bm 259 (ι a)):=Tn.set w (η bm 259) _ rfl;refine⟨⟨?_,h.pw.tn c (λe=>h.n1 e.symm) (λe=>h.n2 e.symm) (λe=>h.n3 e.symm),⟨b,f,sQ i (λg=>(c.block b (by have:=(f g).2.1;have:=h.lw;omega) (by have:=(f g).2;omega)))⟩,cP h.ia (cQ h.ia d) _ _,cP h.gz (cQ h.gz d) _ _,d,h.lx,h.lf,h.li,Ye h.lw c.size,h.n1,h.n2,h.n3⟩,c.mono (λk e=> .inl e),λ_ e=> .inl e,λ_ e=> .inl e⟩;have:=h.row.set 259 (ι a);rw[M']at this;exact this
end
end
variable {a D vs vg:az}{w Z:ay}{B C E F cp:Nat}{ss:fv}{ef:ga}{st:jb}{fl:Nat->Bool}{X:Wd}
open RowKit MapKept ChangeMaps Maps
section
attribute [local go_sem↓] G2 G3
def Si{x:Bool}:∀u∈[Value.bool x],u.oneCell' =true:=by intro u a;simp at a;subst a;rfl
def Ih{c:Obj}(h:a.ownBlock=D.ownBlock\/a.ownBlock=some (w.alloc c).heap.size):pS w D a:=λk b=>by
 obtain e|e:=h
 ·exact .inl (e▸b)
 rw[e]at b;cases b;exact .inr (by rw[X_];omega)
def fp{b:f'}(h:w.ownsRow B C E D F b):∃a cap,D=.slice a F cap:=dR h
def wT(x:Bool)(B l o u v:Nat)(D:fY)(A:Nat)(M:fv)(y:az)(L:ga)(N a:az)(K:jb)(O:Nat->Bool)(z:Nat)(X:Wd)(w:ay)(h:MM w B l o u v D A M y L N a K O z X)(H:K.length<=20):
 Calls prog 173 #[π l,.bool x] w λe k=>e=.returned (.tuple #[])/\∃j,MM k B l o u v D A M y L j a (K++[x]) O z X/\cB l o u N a j a w k:=by
 have⟨t,q,r,s,n⟩:=Y1 Tryz.I4;have⟨C,J,p⟩:=fp h.ia;subst p;have:=h.row.cell? (i:=2) rfl;have:=h.lw;go_in;go_wp2_with (at_builtin;refine YS _ rfl (.tmp 8) (.tmp 10) 82 rfl B 4 t (.bool false) 1 1 underlying82 q r s n rfl (by decide) _ K.length _ rfl (Yz h.ia _) (η _ 0) 1 1 [.bool x] rfl rfl (gX _ _ [_]) (Si) (by unfold maxLen;omega) (by omega) (by rw[X_];omega) ?_;intro G F f d m g;obtain⟨I,E,rfl,-,-⟩:=dv f (by omega);have c:=h.cY (st':=K++[x]) ((YZ w _ _).trans d) (.inr rfl) (by simpa using f) (Ih g);have b:=h.row.grown ((YZ w _ _).trans d) (cQ h.ia h.lm);have:=b.cell? (i:=2) rfl;have:=b.frozen 2)
 go_end0
 exact⟨rfl,_,c⟩
def Ck(x:Bool)(a:jb)(B q r s t:Nat)(C:fY)(A:Nat)(E:fv)(u:az)(D:ga)(F p:az)(G:Nat->Bool)(y:Nat)(X:Wd)(w:ay)(h:MM w B q r s t C A E u D F p (a++[x]) G y X)(v:a.length<=20):
 Calls prog 176 #[π q] w λe j=>e=.returned (.bool x)/\∃g,MM j B q r s t C A E u D g p a G y X/\cB q r s F p g p w j:=by
 have f:(a++[x]).length=a.length+1:=by simp
 have b:=h.ia;rw[f]at b;obtain⟨z,l,n,-⟩:=dv b (by omega);subst n;have:=h.row.cell? (i:=2) rfl;have:=h.row.frozen 2;have:=B_ b;have c:=lI b a.length (by simp);simp only[Yy,YE,Z9]at c;rw[aeq (by simp)]at c;simp only[Yk,ta,X6]at c;have d:=JT b a.length (by omega);have k:((a++[x]).map Value.bool).take a.length=a.map Value.bool:=by rw[Yy,<-Yk Value.bool,acZ]
 rw[k]at d;have o:=h.cY (st':=a) (World.grownBy.refl w none) (.inl rfl) d (λ_ e=> .inl e)
 generalize a.length=m at*;go_in;go_wp2
 go_ret;exact⟨rfl,_,o⟩
section
variable {A:Nat}{ap:fY}{go:Nat}
def MM.fe{c:aj}(h:MM w B A C E F ap cp ss D ef vs vg st fl go X)(d:w.grownBy Z vg.ownBlock)(t:Z.ownsRow B 9 1 a (X.aI.length+1) (X.aI.map aK++[aK c]))(o:pS w vg a):
 MM (Z.ψ A 260 a) B A C E F ap cp ss D ef vs a st fl go ⟨X.aW,X.aQ,X.aI++[c],X.exit⟩/\cB A C E vs vg vs a w (Z.ψ A 260 a):=by
 obtain⟨b,i,s⟩:=h.a_;have f:=h.lm;have v:=h.lx;have y:=h.lf;have p:=h.li;have u:=h.lw;have n:∀k,vg.ownBlock=some k->B<=k:=λk e=>(h.gz.lt k e).1;have q:∀k,k<B->Z.heap[k]?=w.heap[k]?:=λk z=>d.block k (by omega) (λe=>by have:=n k e.symm;omega);have m:Z.ownsRow B 4 1 vs st.length (st.map Value.bool):=by
  rcases mc h.ia h.gz (by decide)with e|e
  ·exact Y' h.ia d (.inl e)
  exact Y' h.ia d (.inr e)
 have g:Tn (λk=>B<=k\/k=A) w (Z.ψ A 260 a):=(Tn.grown d (λk e=> .inl (n k e))).trans (Tn.set Z (η A 260) a (.inr rfl));have r:Tn (λk=>some k=vg.ownBlock\/k=A) w (Z.ψ A 260 a):=(Tn.grown d (λk e=> .inl e.symm)).trans (Tn.set Z (η A 260) a (.inr rfl));have l:Z.ownsRow B 9 1 a (X.aI++[c]).length ((X.aI++[c]).map aK):=by simpa using t
 refine⟨⟨?_,h.pw.tn g (by have:=h.n1;omega) (by have:=h.n2;omega) (by have:=h.n3;omega),⟨b,i,sQ s (λj=>(g.block b (by have:=(i j).2.1;omega) (by have:=(i j).2;omega)))⟩,cP m (cQ m f) 260 _,cP l (cQ l f) 260 _,f,v,y,p,Ye u g.size,h.n1,h.n2,h.n3⟩,r.mono (λk e=>e.elim (λe=> .inr (.inr (.inr (.inr e)))) .inl),λ_ e=> .inl e,o⟩;have x:aF Z A 176 (fI C ap ss.length cp vs fl go vg X.exit):=(q A f).trans h.row;have:=x.set 260 a;rw[LU]at this;exact this
def MM.DS{Y:Wd}(h:MM w B A C E F ap cp ss D ef vs vg st fl go X)(i:Dj C E F D ef Y w Z)(s:Y.aI=X.aI):MM (Z.ψ A 261 (ι Y.exit)) B A C E F ap cp ss D ef vs vg st fl go Y/\cB A C E vs vg vs vg w (Z.ψ A 261 (ι Y.exit)):=by
 have⟨b,g,m⟩:=h.a_;have f:=h.lm;have r:=h.lx;have q:=h.lf;have n:=h.lw;have a:=i.tn;have j:=bI h.ia (λk c=>a.block k (h.ia.lt k c).2 (by have:=(h.ia.lt k c).1;omega));have l:Z.ownsRow B 9 1 vg Y.aI.length (Y.aI.map aK):=by rw[s];exact bI h.gz (λk c=>a.block k (h.gz.lt k c).2 (by have:=(h.gz.lt k c).1;omega))
 have p:=a.size;have d:Tn (λk=>k=A) Z (Z.ψ A 261 (ι Y.exit)):=Tn.set Z (η A 261) _ rfl;refine⟨⟨?_,i.pw.tn d (λe=>h.n1 e.symm) (λe=>h.n2 e.symm) (λe=>h.n3 e.symm),⟨b,g,sQ m (λo=>?_)⟩,cP j (cQ j f) 261 _,cP l (cQ l f) 261 _,f,r,q,h.li,Ye (Ye n p) d.size,h.n1,h.n2,h.n3⟩,(a.mono (λk e=>e.elim (λe=> .inr (.inl e)) (λe=> .inr (.inr (.inl e))))).trans (d.mono (λk e=> .inl e)),λ_ e=> .inl e,λ_ e=> .inl e⟩
 ·have:=((h.row.tn a (by have:=h.n1;have:=h.n2;omega))).set 261 (ι Y.exit);rw[Ma]at this;exact this
 have t:=(g o).2;exact(d.block b (by omega) (by omega)).trans (a.block b (by omega) (by omega))
end
def P1(b:ga)(X:Wd)(c:aj)(a:fv):(eI b ⟨X.aW,X.aQ,a,X.exit⟩ c).aW=(eI b X c).aW/\(eI b ⟨X.aW,X.aQ,a,X.exit⟩ c).aQ=(eI b X c).aQ/\(eI b ⟨X.aW,X.aQ,a,X.exit⟩ c).exit=(eI b X c).exit:=by unfold eI;simp only;split<;>exact⟨rfl,rfl,rfl⟩
def AG(a:ga)(X:Wd)(c:aj):(eI a X c).aI=X.aI++[c]:=by unfold eI;split<;>rfl
def Q8(c:aj)(S:fv)(L l m ce:Nat)(g:fY)(B u j Q Z:Nat)(ap:fY)(cp:Nat)(ss:fv)(ef:ga)(vs vg:az)(st:jb)(fl:Nat->Bool)(go:Nat)(X:Wd)(w:ay)(h:MM w B u j Q Z ap cp ss (.slice g ef.length ce) ef vs vg st fl go X)(M:X.exit=0)(H:0<ef.length->g=some ⟨l,m,none⟩)(A:kX w L l m ef)(R:L<=u)(x:L<=j)(C:L<=Q)(D:Fit S X.aW)(hS:S.length<=8388608)(E:∀e∈ef,∀f∈e.cE,f.aL∈S)(Y:ef.length<=8388608)(G:∀e∈ef,e.cE.length<=8388608)(af:X.aI.length<=8388608):
 Calls prog 177 #[π u,σ c] w λe b=>e=.returned (.tuple #[])/\∃a,MM b B u j Q Z ap cp ss (.slice g ef.length ce) ef vs a st fl go (eI ef X c)/\cB u j Q vs vg vs a w b:=by
 have⟨U,ab,T,ac,aa⟩:=Y1 Tryz.kZ;have⟨v,I,P⟩:=fp h.gz;subst P;have c5:=h.row.cell? (i:=260) (pE 1);have c0:=h.row.cell? (i:=0) rfl;have ad:=h.lw;have V:=h.lm;have N:∀(W:ay) (a:az),MM W B u j Q Z ap cp ss (.slice g ef.length ce) ef vs a st fl go ⟨X.aW,X.aQ,X.aI++[c],X.exit⟩->cB u j Q vs (.slice v X.aI.length I) vs a w W->Calls prog 217 #[π j,σ c] W λe b=>e=.returned (ι (eI ef X c).exit)/\aF b u 176 (fI j ap ss.length cp vs fl go a X.exit)/\
  (MM (b.ψ u 261 (ι (eI ef X c).exit)) B u j Q Z ap cp ss (.slice g ef.length ce) ef vs a st fl go (eI ef X c)/\cB u j Q vs (.slice v X.aI.length I) vs a w (b.ψ u 261 (ι (eI ef X c).exit))):=λW a p s=>by
  have O:=A.aP (s.tn.aP (B:=L) (by omega) (λk e=>by
   obtain rfl|rfl|rfl|e|e:=e
   ·exact R
   ·exact x
   ·exact C
   ·have:=(h.ia.lt k e.symm).1;omega
   have:=(h.gz.lt k e.symm).1;omega))
  have⟨g1,g2,g3⟩:=P1 ef X c (X.aI++[c]);refine κ (Te c S ef L j Q Z l m ce g ⟨X.aW,X.aQ,X.aI++[c],X.exit⟩ W p.pw M H O x C D hS E Y G) λb r=>?_;have J:Dj j Q Z (.slice g ef.length ce) ef (eI ef X c) W b:=⟨by have:=r.pw;rw[g1,g2]at this;exact this,r.tn⟩;have F:=p.DS J (AG ef X c);refine⟨by rw[g3],p.row.tn r.tn (by have:=h.n1;have:=h.n2;omega),F.1,s.trans F.2⟩
 go_in;go_wp2_with (first|(at_builtin;refine YS _ rfl (.tmp 8) (.tmp 10) 30 rfl B 9 U (ε) 1 16 YU ab T ac aa rfl (by decide) _ X.aI.length _ rfl (Yz h.gz _) (η _ 0) 1 1 [σ c] rfl rfl (gX _ _ [_]) (uI) (by unfold maxLen;omega) (by omega) (by rw[X_];omega) ?_;intro v1 w1 o n K t;obtain⟨q1,q2,rfl,-,-⟩:=dv o (by omega);have q:=h.fe (c:=c) ((YZ w _ _).trans n) o (Ih t);have y:=(YZ w _ _).trans n;have d:=h.row.grown y (cQ h.gz V);have e5:=d.frozen 260;have d0:=q.1.row.cell? (i:=0) rfl;have d5:=d.cell? (i:=260) (pE 1))|(go_at_call 217;refine κ (N _ _ q.1 q.2) λw2⟨d,z⟩=>?_;have y1:=d.cell? (i:=261) (pE 2);have y2:=d.frozen 261))
 go_end0
 exact⟨rfl,_,z⟩
end
