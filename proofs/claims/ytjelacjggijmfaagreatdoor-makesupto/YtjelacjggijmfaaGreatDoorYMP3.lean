/- . -/
import Derived.Test.YtjelacjggijmfaaGreatDoorYWP3
set_option linter.all false
set_option maxHeartbeats 8000000
set_option maxRecDepth 100000
namespace Go.Proofs.YtjelacjggijmfaaGreatDoor
open Pl Mk Cp Proofs.Tryz
variable {w Z Y W wr:ay}{B bx bf bi cp d i n xb k k2 er l:Nat}{ss S m:fv}{ve vs vg br bY vn vb vb' vo v1 j:az}{ef:ga}{st y:jb}{fl z:Nat->Bool}{c a o:aj}{R D:Wd}{f:f'}{e:Program}{L:js}{g:Sg}{s:ib}{t:fY}
section
open RowKit MapKept ChangeMaps Maps
section
attribute [local go_sem↓] G2 G3
def eC(c a b F G:Nat):f':=[.int .u8 c,ι a,ι b,ι F,ι G]
section
variable {bm:Nat}{ap:fY}{go:Nat}{X:Wd}
def MM.wg(h:MM w B bm bx bf bi ap cp ss ve ef vs vg st fl go X){b:TypeId}(q:w.heap.size<=d)(a:aF W d b f)(N:cB bm bx bf vs vg br bY W Z):aF Z d b f:=by
 have:=h.lm;have:=h.lx;have:=h.lf;have:=h.lw;refine a.tn N.tn (λe=>?_);obtain e|e|e|e|e:=e
 ·omega
 ·omega
 ·omega
 ·have:=(h.ia.lt d e.symm).2;omega
 have:=(h.gz.lt d e.symm).2;omega
end
def UZ(a b F G:Nat)(B c g l p:Nat)(H:fY)(D:Nat)(o:fv)(v:az)(n:ga)(j k:az)(m:jb)(u:Nat->Bool)(A:Nat)(X:Wd)(w:ay)(h:MM w B c g l p H D o v n j k m u A X)(C:m.length<=18)(E:F<=1):
 Calls prog 133 #[.pointer (some ⟨c,0,none⟩),.agg #[.int .u8 1,.int .i64 a,.int .i64 b,.int .i64 F,.int .i64 G]] w λe r=>e=.returned (.tuple #[])/\∃br bY,MM r B c g l p H D o v n br bY (m++[F==1]) u A X/\cB c g l j k br bY w r:=by
 have i:Below w.heap.size w (w.alloc (.cells #[.int .u8 1,.int .i64 a,.int .i64 b,.int .i64 F,.int .i64 G] 254)):=ak w _;have s:cB c g l j k j k w (w.alloc (.cells #[.int .u8 1,.int .i64 a,.int .i64 b,.int .i64 F,.int .i64 G] 254)):=cB.aD i;have:aF (w.alloc (.cells #[.int .u8 1,.int .i64 a,.int .i64 b,.int .i64 F,.int .i64 G] 254)) w.heap.size 254 (eC 1 a b F G):=aF.bq w 254 [.int .u8 1,.int .i64 a,.int .i64 b,.int .i64 F,.int .i64 G];have z:F=0\/F=1:=by omega
 have q:=λx=>wT x _ _ _ _ _ _ _ _ _ _ _ _ _ _ _ _ _ (h.aD i) (by omega:m.length<=20);obtain rfl|rfl:=z
 ·go_in;go_wp2_with (go_at_call 173;refine(q _).mono ?_;rintro e y⟨rfl,t,f,d⟩)
  go_end0
  exact⟨rfl,_,_,f,s.trans d⟩
 go_in;go_wp2_with (go_at_call 173;refine(q _).mono ?_;rintro e y⟨rfl,t,f,d⟩)
 go_end0
 exact⟨rfl,_,_,f,s.trans d⟩
def Uj(a:jb)(x y:Bool)(d f F G:Nat)(B c k m n:Nat)(D:fY)(u:Nat)(Q:fv)(o:az)(P:ga)(S g:az)(R:Nat->Bool)(p:Nat)(X:Wd)(w:ay)(h:MM w B c k m n D u Q o P S g (a++[x,y]) R p X)(I:a.length<=16):
 Calls prog 133 #[π c,.agg #[.int .u8 5,ι d,ι f,ι F,ι G]] w λe b=>e=.returned (.tuple #[])/\∃br bY,MM b B c k m n D u Q o P br bY (a++[y||x]) R p X/\cB c k m S g br bY w b:=by
 have i:μ w (w.alloc (.cells #[.int .u8 5,ι d,ι f,ι F,ι G] 254)):=ak w _;have q:=h.aD i;rw[show a++[x,y]=(a++[x])++[y] by simp]at q;have K:cB c k m S g S g w (w.alloc (.cells #[.int .u8 5,ι d,ι f,ι F,ι G] 254)):=cB.aD i;have N:=Ck y (a++[x]) _ _ _ _ _ _ _ _ _ _ _ _ _ _ _ _ q (by simp;omega);have J:∀(W:ay) (v:az),MM W B c k m n D u Q o P v g (a++[x]) R p X->Calls prog 176 #[π c] W λe b=>e=.returned (.bool x)/\∃br,MM b B c k m n D u Q o P br g a R p X/\cB c k m v g br g W b:=λW v j=>Ck x a _ _ _ _ _ _ _ _ _ _ _ _ _ _ _ W j (by omega);have O:∀(W:ay) (v:az) (z:Bool),MM W B c k m n D u Q o P v g a R p X->Calls prog 173 #[π c,.bool z] W λe b=>e=.returned (.tuple #[])/\∃br,MM b B c k m n D u Q o P br g (a++[z]) R p X/\cB c k m v g br g W b:=λW v z j=>wT z _ _ _ _ _ _ _ _ _ _ _ _ _ _ _ _ W j (by omega);cases x<;>cases y
 all_goals go_in
 all_goals go_wp2_with (first|(go_at_call 176;refine κ N λV⟨T,A,l⟩=>?_)|(go_at_call 176;refine κ (J _ _ A) λM⟨H,C,r⟩=>?_)|(go_at_call 173;refine κ (O _ _ _ C) λE⟨L,t,s⟩=>?_))
 all_goals go_end0
 all_goals exact⟨rfl,_,_,t,((K.trans l).trans r).trans s⟩
def Us(j:jb)(y:Bool)(b a F G:Nat)(B g k m n:Nat)(x:fY)(u:Nat)(K:fv)(o:az)(D:ga)(C c:az)(L:Nat->Bool)(p:Nat)(X:Wd)(w:ay)(h:MM w B g k m n x u K o D C c (j++[y]) L p X)(P:j.length<=17)(U:a<=8388608)(T:F<=65535):
 Calls prog 133 #[π g,.agg #[.int .u8 6,ι b,ι a,ι F,ι G]] w λe s=>e=.returned (.tuple #[])/\∃br bY,MM s B g k m n x u K o D br bY j L (if y then p else a+F) X/\cB g k m C c br bY w s:=by
 have l:μ w (w.alloc (.cells #[.int .u8 6,ι b,ι a,ι F,ι G] 254)):=ak w _;have t:cB g k m C c C c w (w.alloc (.cells #[.int .u8 6,ι b,ι a,ι F,ι G] 254)):=cB.aD l;have I:aF (w.alloc (.cells #[.int .u8 6,ι b,ι a,ι F,ι G] 254)) w.heap.size 254 (eC 6 b a F G):=aF.bq w 254 [.int .u8 6,ι b,ι a,ι F,ι G];have z:=Ck y j _ _ _ _ _ _ _ _ _ _ _ _ _ _ _ _ (h.aD l) (by omega);have J:∀(Z:ay) (v:az),cB g k m C c v c (w.alloc (.cells #[.int .u8 6,ι b,ι a,ι F,ι G] 254)) Z->aF Z w.heap.size 254 (eC 6 b a F G):=λZ v H=>h.wg ax I H;cases y
 ·go_in;go_wp2_with (go_at_call 176;refine κ z λA⟨E,d,f⟩=>?_;have r:=J _ _ f;have N:=r.cell? (i:=2) rfl;have O:=r.cell? (i:=3) rfl;have Q:=d.row.cell? (i:=259) (pE 0);have V:=d.row.frozen 259;have q:=t.trans f)
  go_end0
  have:=d.Xj (a+F);exact⟨rfl,_,_,this.1,q.trans this.2⟩
 go_in;go_wp2_with (go_at_call 176;refine κ z λA⟨E,d,f⟩=>?_;have q:=t.trans f)
 go_end0
 exact⟨rfl,_,_,d,q⟩
end
section
attribute [local go_sem↓] G2 G3
def UC(d f F G:Nat)(B c g m o:Nat)(D:fY)(n:Nat)(ss:fv)(u:az)(ef:ga)(vs k:az)(st:jb)(fl:Nat->Bool)(p:Nat)(X:Wd)(w:ay)(h:MM w B c g m o D n ss u ef vs k st fl p X)(ai:st.length<=18)(U:F<ss.length):
 Calls prog 133 #[π c,.agg #[.int .u8 2,ι d,ι f,ι F,ι G]] w λe a=>e=.returned (.tuple #[])/\∃br bY,MM a B c g m o D n ss u ef br bY (st++[(Pl.look X.aW ss[F]).isNone]) fl p X/\cB c g m vs k br bY w a:=by
 obtain⟨b,T,-⟩:=h.dd (by omega);subst T;have y:μ w (w.alloc (.cells #[.int .u8 2,ι d,ι f,ι F,ι G] 254)):=ak w _;have O:=h.aD y;have ac:cB c g m vs k vs k w (w.alloc (.cells #[.int .u8 2,ι d,ι f,ι F,ι G] 254)):=cB.aD y;have I:aF (w.alloc (.cells #[.int .u8 2,ι d,ι f,ι F,ι G] 254)) w.heap.size 254 (eC 2 d f F G):=aF.bq w 254 [.int .u8 2,ι d,ι f,ι F,ι G];have v:Hid (∀(W:ay) (H Q:az) (K:jb) (J:Wd),MM W B c g m o (some (η b 0)) n ss u ef H Q K fl p J->aF W w.heap.size 254 (eC 2 d f F G)->W.χ c 0=some (π g)/\W.χ c 1=some (ξ b ss.length n)/\W.χ w.heap.size 3=some (ι F)/\W.χ b F=some (σ ss[F])):=λW H Q K J r E=>⟨r.row.cell? (i:=0) rfl,r.row.cell? (i:=1) rfl,E.cell? (i:=3) rfl,by have⟨b',l,L⟩:=r.dd (by omega);cases l;exact L F U⟩;have aa:∀(W Z:ay) (x N:az),aF W w.heap.size 254 (eC 2 d f F G)->cB c g m vs k x N W Z->aF Z w.heap.size 254 (eC 2 d f F G):=λW Z x N E s=>h.wg ax E s;have Y:∀(W:ay) (z:Bool),(MM W B c g m o (some (η b 0)) n ss u ef vs k st fl p X/\aF W w.heap.size 254 (eC 2 d f F G)/\cB c g m vs k vs k w W)->Calls prog 173 #[π c,.bool z] W λe a=>e=.returned (.tuple #[])/\(∃br,MM a B c g m o (some (η b 0)) n ss u ef br k (st++[z]) fl p X/\cB c g m vs k br k w a)/\a.χ c 0=some (π g)/\a.χ c 1=some (ξ b ss.length n)/\a.χ w.heap.size 3=some (ι F)/\a.χ b F=some (σ ss[F]):=λW z j=>by refine(wT z _ _ _ _ _ _ _ _ _ _ _ _ _ _ _ _ W j.1 (by omega)).mono ?_;rintro e a⟨A,br,r,s⟩;exact⟨A,⟨br,r,j.2.2.trans s⟩,v _ _ _ _ _ r (aa _ _ _ _ j.2.1 s)⟩
 have CH:∀W,(MM W B c g m o (some (η b 0)) n ss u ef vs k st fl p X/\aF W w.heap.size 254 (eC 2 d f F G)/\cB c g m vs k vs k w W)->Calls prog 174 #[π g,σ ss[F]] W λe a=>e=.returned (.bool (Pl.look X.aW ss[F]).isSome)/\(MM a B c g m o (some (η b 0)) n ss u ef vs k st fl p X/\aF a w.heap.size 254 (eC 2 d f F G)/\cB c g m vs k vs k w a)/\a.χ c 0=some (π g)/\a.χ c 1=some (ξ b ss.length n)/\a.χ w.heap.size 3=some (ι F)/\a.χ b F=some (σ ss[F]):=λW j=>by refine(Cn g m o _ _ _ _ _ W j.1.pw).mono ?_;rintro e a⟨A,l⟩;exact⟨A,⟨j.1.aD l,j.2.1.aD l,j.2.2.trans (cB.aD l)⟩,v _ _ _ _ _ (j.1.aD l) (j.2.1.aD l)⟩
 have P:(Pl.look X.aW ss[F]).isNone= !(Pl.look X.aW ss[F]).isSome:=by cases Pl.look X.aW ss[F]<;>rfl
 rw[P];generalize (Pl.look X.aW ss[F]).isSome=q at*
 have⟨x0,x1,x2,x3⟩:=v _ _ _ _ _ O I;have C:Hid (MM (w.alloc (.cells #[.int .u8 2,ι d,ι f,ι F,ι G] 254)) B c g m o (some (η b 0)) n ss u ef vs k st fl p X/\aF (w.alloc (.cells #[.int .u8 2,ι d,ι f,ι F,ι G] 254)) w.heap.size 254 (eC 2 d f F G)/\cB c g m vs k vs k w (w.alloc (.cells #[.int .u8 2,ι d,ι f,ι F,ι G] 254))):=⟨O,I,ac⟩;go_in;go_wp2
 generalize w.alloc (.cells #[.int .u8 2,ι d,ι f,ι F,ι G] 254)=V at*;have S:Hid (MM V.drew B c g m o (some (η b 0)) n ss u ef vs k st fl p X/\aF V.drew w.heap.size 254 (eC 2 d f F G)/\cB c g m vs k vs k w V.drew):=⟨C.1.aD (X5 _ V).drew,C.2.1,C.2.2.trans (cB.aD (X5 _ V).drew)⟩;go_region_held3 (λa=>a.χ c 0=some (π g)/\a.χ c 1=some (ξ b ss.length n)/\a.χ w.heap.size 3=some (ι F)/\a.χ b F=some (σ ss[F])) (go_keep) (first|(go_at_call 174;refine(CH _ ?_).mono ?_;exact S;rintro e w2⟨rfl,M,z0,z1,z2,z3⟩)|(go_at_call 173;refine(Y _ _ ?_).mono ?_;exact M;rintro e w3⟨rfl,t,y0,y1,y2,y3⟩))
 all_goals go_wp2
 all_goals go_end0
 all_goals(have⟨R,t,ad⟩:=t;exact⟨rfl,R,k,t,ad⟩)
def Uh(d f F G:Nat)(B c g m o:Nat)(D:fY)(n:Nat)(ss:fv)(u:az)(ef:ga)(vs k:az)(st:jb)(fl:Nat->Bool)(p:Nat)(X:Wd)(w:ay)(h:MM w B c g m o D n ss u ef vs k st fl p X)(ai:st.length<=18)(Y:F<ss.length)(U:G<ss.length):
 Calls prog 133 #[π c,.agg #[.int .u8 3,ι d,ι f,ι F,ι G]] w λe a=>e=.returned (.tuple #[])/\∃br bY,MM a B c g m o D n ss u ef br bY (st++[h_ X.aW ss[F] ss[G]]) fl p X/\cB c g m vs k br bY w a:=by
 obtain⟨b,T,-⟩:=h.dd (by omega);subst T;have A:μ w (w.alloc (.cells #[.int .u8 3,ι d,ι f,ι F,ι G] 254)):=ak w _;have P:=h.aD A;have ac:cB c g m vs k vs k w (w.alloc (.cells #[.int .u8 3,ι d,ι f,ι F,ι G] 254)):=cB.aD A;have I:aF (w.alloc (.cells #[.int .u8 3,ι d,ι f,ι F,ι G] 254)) w.heap.size 254 (eC 3 d f F G):=aF.bq w 254 [.int .u8 3,ι d,ι f,ι F,ι G];have y:Hid (∀(W:ay) (H Q:az) (M:jb) (J:Wd),MM W B c g m o (some (η b 0)) n ss u ef H Q M fl p J->aF W w.heap.size 254 (eC 3 d f F G)->W.χ c 0=some (π g)/\W.χ c 1=some (ξ b ss.length n)/\W.χ w.heap.size 3=some (ι F)/\W.χ w.heap.size 4=some (ι G)/\W.χ b F=some (σ ss[F])/\W.χ b G=some (σ ss[G])):=λW H Q M J r v=>⟨r.row.cell? (i:=0) rfl,r.row.cell? (i:=1) rfl,v.cell? (i:=3) rfl,v.cell? (i:=4) rfl,by have⟨b',l,K⟩:=r.dd (by omega);cases l;exact⟨K F Y,K G U⟩⟩;have L:∀(W Z:ay) (x O:az),aF W w.heap.size 254 (eC 3 d f F G)->cB c g m vs k x O W Z->aF Z w.heap.size 254 (eC 3 d f F G):=λW Z x O v s=>h.wg ax v s;have CP:∀(W:ay) (z:Bool),(MM W B c g m o (some (η b 0)) n ss u ef vs k st fl p X/\aF W w.heap.size 254 (eC 3 d f F G)/\cB c g m vs k vs k w W)->Calls prog 173 #[π c,.bool z] W λe a=>e=.returned (.tuple #[])/\(∃br,MM a B c g m o (some (η b 0)) n ss u ef br k (st++[z]) fl p X/\cB c g m vs k br k w a)/\a.χ c 0=some (π g)/\a.χ c 1=some (ξ b ss.length n)/\a.χ w.heap.size 3=some (ι F)/\a.χ w.heap.size 4=some (ι G)/\a.χ b F=some (σ ss[F])/\a.χ b G=some (σ ss[G]):=λW z j=>by refine(wT z _ _ _ _ _ _ _ _ _ _ _ _ _ _ _ _ W j.1 (by omega)).mono ?_;rintro e a⟨C,br,r,s⟩;exact⟨C,⟨br,r,j.2.2.trans s⟩,y _ _ _ _ _ r (L _ _ _ _ j.2.1 s)⟩
 have CH:∀W,(MM W B c g m o (some (η b 0)) n ss u ef vs k st fl p X/\aF W w.heap.size 254 (eC 3 d f F G)/\cB c g m vs k vs k w W)->Calls prog 175 #[π g,σ ss[F],σ ss[G]] W λe a=>e=.returned (.bool (h_ X.aW ss[F] ss[G]))/\(MM a B c g m o (some (η b 0)) n ss u ef vs k st fl p X/\aF a w.heap.size 254 (eC 3 d f F G)/\cB c g m vs k vs k w a)/\a.χ c 0=some (π g)/\a.χ c 1=some (ξ b ss.length n)/\a.χ w.heap.size 3=some (ι F)/\a.χ w.heap.size 4=some (ι G)/\a.χ b F=some (σ ss[F])/\a.χ b G=some (σ ss[G]):=λW j=>by refine(QN g m o _ _ _ _ _ _ W j.1.pw).mono ?_;rintro e a⟨C,l⟩;exact⟨C,⟨j.1.aD l,j.2.1.aD l,j.2.2.trans (cB.aD l)⟩,y _ _ _ _ _ (j.1.aD l) (j.2.1.aD l)⟩
 generalize h_ X.aW ss[F] ss[G]=q at*
 have⟨x0,x1,x2,x3,x4,x5⟩:=y _ _ _ _ _ P I;have E:Hid (MM (w.alloc (.cells #[.int .u8 3,ι d,ι f,ι F,ι G] 254)) B c g m o (some (η b 0)) n ss u ef vs k st fl p X/\aF (w.alloc (.cells #[.int .u8 3,ι d,ι f,ι F,ι G] 254)) w.heap.size 254 (eC 3 d f F G)/\cB c g m vs k vs k w (w.alloc (.cells #[.int .u8 3,ι d,ι f,ι F,ι G] 254))):=⟨P,I,ac⟩;go_in;go_wp2
 generalize w.alloc (.cells #[.int .u8 3,ι d,ι f,ι F,ι G] 254)=V at*;have S:Hid (MM V.drew B c g m o (some (η b 0)) n ss u ef vs k st fl p X/\aF V.drew w.heap.size 254 (eC 3 d f F G)/\cB c g m vs k vs k w V.drew):=⟨E.1.aD (X5 _ V).drew,E.2.1,E.2.2.trans (cB.aD (X5 _ V).drew)⟩;go_region_held3 (λa=>a.χ c 0=some (π g)/\a.χ c 1=some (ξ b ss.length n)/\a.χ w.heap.size 3=some (ι F)/\a.χ w.heap.size 4=some (ι G)/\a.χ b F=some (σ ss[F])/\a.χ b G=some (σ ss[G])) (go_keep) (first|(go_at_call 175;refine(CH _ ?_).mono ?_;exact S;rintro e w2⟨rfl,N,z0,z1,z2,z3,z4,z5⟩)|(go_at_call 173;refine(CP _ _ ?_).mono ?_;exact N;rintro e w3⟨rfl,t,y0,y1,y2,y3,y4,y5⟩))
 all_goals go_wp2
 all_goals go_end0
 all_goals(have⟨R,t,ad⟩:=t;exact⟨rfl,R,k,t,ad⟩)
def Ul(a b F G:Nat)(B c k m n:Nat)(x:fY)(u:Nat)(ss:fv)(o:az)(ef:ga)(vs g:az)(st:jb)(fl:Nat->Bool)(p:Nat)(X:Wd)(w:ay)(h:MM w B c k m n x u ss o ef vs g st fl p X)(Y:st.length<=18)(T:F<256):
 Calls prog 133 #[π c,.agg #[.int .u8 4,ι a,ι b,ι F,ι G]] w λe d=>e=.returned (.tuple #[])/\∃br bY,MM d B c k m n x u ss o ef br bY (st++[fl F]) fl p X/\cB c k m vs g br bY w d:=by
 have q:μ w (w.alloc (.cells #[.int .u8 4,ι a,ι b,ι F,ι G] 254)):=ak w _;have H:=h.aD q;have P:cB c k m vs g vs g w (w.alloc (.cells #[.int .u8 4,ι a,ι b,ι F,ι G] 254)):=cB.aD q;have A:aF (w.alloc (.cells #[.int .u8 4,ι a,ι b,ι F,ι G] 254)) w.heap.size 254 (eC 4 a b F G):=aF.bq w 254 [.int .u8 4,ι a,ι b,ι F,ι G];have I:Hid (∀(W:ay) (v C:az) (y:jb) (J:Wd),MM W B c k m n x u ss o ef v C y fl p J->aF W w.heap.size 254 (eC 4 a b F G)->W.χ w.heap.size 3=some (ι F)/\W.χ c (3+F)=some (.bool (fl F))):=λW v C y J l t=>⟨t.cell? (i:=3) rfl,l.row.cell? (EP F T)⟩;have O:∀(W Z:ay) (D E:az),aF W w.heap.size 254 (eC 4 a b F G)->cB c k m vs g D E W Z->aF Z w.heap.size 254 (eC 4 a b F G):=λW Z D E t f=>h.wg ax t f;have M:∀(W:ay) (z:Bool),(MM W B c k m n x u ss o ef vs g st fl p X/\aF W w.heap.size 254 (eC 4 a b F G)/\cB c k m vs g vs g w W)->Calls prog 173 #[π c,.bool z] W λe d=>e=.returned (.tuple #[])/\(∃br,MM d B c k m n x u ss o ef br g (st++[z]) fl p X/\cB c k m vs g br g w d)/\d.χ w.heap.size 3=some (ι F)/\d.χ c (3+F)=some (.bool (fl F)):=λW z s=>by refine(wT z _ _ _ _ _ _ _ _ _ _ _ _ _ _ _ _ W s.1 (by omega)).mono ?_;rintro e d⟨Q,br,l,f⟩;exact⟨Q,⟨br,l,s.2.2.trans f⟩,I _ _ _ _ _ l (O _ _ _ _ s.2.1 f)⟩
 have:(F:Int)<256:=by omega
 have:(0:Int)<=F:=by omega
 have⟨R,x1⟩:=I _ _ _ _ _ H A;have r:Hid (MM (w.alloc (.cells #[.int .u8 4,ι a,ι b,ι F,ι G] 254)) B c k m n x u ss o ef vs g st fl p X/\aF (w.alloc (.cells #[.int .u8 4,ι a,ι b,ι F,ι G] 254)) w.heap.size 254 (eC 4 a b F G)/\cB c k m vs g vs g w (w.alloc (.cells #[.int .u8 4,ι a,ι b,ι F,ι G] 254))):=⟨H,A,P⟩;go_in;go_wp2
 generalize w.alloc (.cells #[.int .u8 4,ι a,ι b,ι F,ι G] 254)=V at*;have K:Hid (MM V.drew B c k m n x u ss o ef vs g st fl p X/\aF V.drew w.heap.size 254 (eC 4 a b F G)/\cB c k m vs g vs g w V.drew):=⟨r.1.aD (X5 _ V).drew,r.2.1,r.2.2.trans (cB.aD (X5 _ V).drew)⟩;go_region_held3 (λd=>d.χ w.heap.size 3=some (ι F)/\d.χ c (3+F)=some (.bool (fl F))) (go_keep) (first|(go_at_call 173;refine(M _ _ ?_).mono ?_;exact K;rintro e S⟨rfl,j,y0,U⟩))
 all_goals go_wp2
 all_goals go_end0
 all_goals(have⟨N,j,L⟩:=j;exact⟨rfl,N,g,j,L⟩)
def UR(a d F G:Nat)(B c g n x:Nat)(ap:fY)(o:Nat)(ss:fv)(l:fY)(p L v t:Nat)(S:fv)(ef:ga)(vs m:az)(st:jb)(fl:Nat->Bool)(u:Nat)(X:Wd)(w:ay)(h:MM w B c g n x ap o ss (.slice l ef.length p) ef vs m st fl u X)(hF:F<ss.length)(hx:X.exit=0)(aa:0<ef.length->l=some ⟨v,t,none⟩)(U:kX w L v t ef)(O:L<=c)(T:L<=g)(ac:L<=n)(J:Fit S X.aW)(hS:S.length<=8388608)(P:∀e∈ef,∀f∈e.cE,f.aL∈S)(ad:ef.length<=8388608)(Q:∀e∈ef,e.cE.length<=8388608)(ar:X.aI.length<=8388608):
 Calls prog 133 #[π c,.agg #[.int .u8 7,ι a,ι d,ι F,ι G]] w λe j=>e=.returned (.tuple #[])/\∃br bY,MM j B c g n x ap o ss (.slice l ef.length p) ef br bY st fl u (eI ef X ss[F])/\cB c g n vs m br bY w j:=by
 obtain⟨b,hb,-⟩:=h.dd (by omega);subst hb;have z:μ w (w.alloc (.cells #[.int .u8 7,ι a,ι d,ι F,ι G] 254)):=ak w _;have M:=h.aD z;have am:cB c g n vs m vs m w (w.alloc (.cells #[.int .u8 7,ι a,ι d,ι F,ι G] 254)):=cB.aD z;have I:aF (w.alloc (.cells #[.int .u8 7,ι a,ι d,ι F,ι G] 254)) w.heap.size 254 (eC 7 a d F G):=aF.bq w 254 [.int .u8 7,ι a,ι d,ι F,ι G];have Y:Hid (∀(W:ay) (E R:az) (H:jb) (N:Wd),MM W B c g n x (some (η b 0)) o ss (.slice l ef.length p) ef E R H fl u N->aF W w.heap.size 254 (eC 7 a d F G)->W.χ c 1=some (ξ b ss.length o)/\W.χ w.heap.size 3=some (ι F)/\W.χ b F=some (σ ss[F])):=λW E R H N q C=>⟨q.row.cell? (i:=1) rfl,C.cell? (i:=3) rfl,by have⟨b',aq,al⟩:=q.dd (by omega);cases aq;exact al F hF⟩;have ai:∀(W Z:ay) (D K:az),aF W w.heap.size 254 (eC 7 a d F G)->cB c g n vs m D K W Z->aF Z w.heap.size 254 (eC 7 a d F G):=λW Z D K C r=>h.wg ax C r;have CG:∀W,(MM W B c g n x (some (η b 0)) o ss (.slice l ef.length p) ef vs m st fl u X/\aF W w.heap.size 254 (eC 7 a d F G)/\cB c g n vs m vs m w W)->Calls prog 177 #[π c,σ ss[F]] W λe j=>e=.returned (.tuple #[])/\(∃bY,MM j B c g n x (some (η b 0)) o ss (.slice l ef.length p) ef vs bY st fl u (eI ef X ss[F])/\cB c g n vs m vs bY w j)/\j.χ c 1=some (ξ b ss.length o)/\j.χ w.heap.size 3=some (ι F)/\j.χ b F=some (σ ss[F]):=λW y=>by
  have af:=U.aP (y.2.2.tn.aP (B:=L) (by have:=h.lm;have:=h.lw;omega) (λk e=>by
   obtain rfl|rfl|rfl|e|e:=e
   ·exact O
   ·exact T
   ·exact ac
   ·have:=(h.ia.lt k e.symm).1;have:=h.lm;omega
   have:=(h.gz.lt k e.symm).1;have:=h.lm;omega))
  refine(Q8 ss[F] S L v t p l _ _ _ _ _ _ _ _ _ _ _ _ _ _ _ W y.1 hx aa af O T ac J hS P ad Q ar).mono ?_;rintro e j⟨he,bY,q,r⟩;exact⟨he,⟨bY,q,y.2.2.trans r⟩,Y _ _ _ _ _ q (ai _ _ _ _ y.2.1 r)⟩
 have⟨x0,x1,x2⟩:=Y _ _ _ _ _ M I;have A:Hid (MM (w.alloc (.cells #[.int .u8 7,ι a,ι d,ι F,ι G] 254)) B c g n x (some (η b 0)) o ss (.slice l ef.length p) ef vs m st fl u X/\aF (w.alloc (.cells #[.int .u8 7,ι a,ι d,ι F,ι G] 254)) w.heap.size 254 (eC 7 a d F G)/\cB c g n vs m vs m w (w.alloc (.cells #[.int .u8 7,ι a,ι d,ι F,ι G] 254))):=⟨M,I,am⟩;go_in;go_wp2
 generalize w.alloc (.cells #[.int .u8 7,ι a,ι d,ι F,ι G] 254)=V at*;have ah:Hid (MM V.drew B c g n x (some (η b 0)) o ss (.slice l ef.length p) ef vs m st fl u X/\aF V.drew w.heap.size 254 (eC 7 a d F G)/\cB c g n vs m vs m w V.drew):=⟨A.1.aD (X5 _ V).drew,A.2.1,A.2.2.trans (cB.aD (X5 _ V).drew)⟩;go_region_held3 (λj=>j.χ c 1=some (ξ b ss.length o)/\j.χ w.heap.size 3=some (ι F)/\j.χ b F=some (σ ss[F])) (go_keep) (first|(go_at_call 177;refine(CG _ ?_).mono ?_;exact ah;rintro e w3⟨rfl,s,y0,y1,y2⟩))
 all_goals go_wp2
 all_goals go_end0
 all_goals(have⟨ao,s,ag⟩:=s;exact⟨rfl,vs,ao,s,ag⟩)
def Uc(a b F G:Nat)(B g k m n:Nat)(x:fY)(u:Nat)(L:fv)(o:az)(E:ga)(D c:az)(O:jb)(N:Nat->Bool)(p:Nat)(X:Wd)(w:ay)(h:MM w B g k m n x u L o E D c O N p X)(q:F<256):
 Calls prog 133 #[π g,.agg #[.int .u8 8,ι a,ι b,ι F,ι G]] w λe f=>e=.returned (.tuple #[])/\∃br bY,MM f B g k m n x u L o E br bY O (xD N F) p X/\cB g k m D c br bY w f:=by
 have l:μ w (w.alloc (.cells #[.int .u8 8,ι a,ι b,ι F,ι G] 254)):=ak w _;have d:=h.aD l;have I:cB g k m D c D c w (w.alloc (.cells #[.int .u8 8,ι a,ι b,ι F,ι G] 254)):=cB.aD l;have y:aF (w.alloc (.cells #[.int .u8 8,ι a,ι b,ι F,ι G] 254)) w.heap.size 254 (eC 8 a b F G):=aF.bq w 254 [.int .u8 8,ι a,ι b,ι F,ι G];have K:Hid (∀(W:ay) (t C:az) (v:jb) (A:Wd),MM W B g k m n x u L o E t C v N p A->aF W w.heap.size 254 (eC 8 a b F G)->W.χ w.heap.size 3=some (ι F)):=λW t C v A z s=>s.cell? (i:=3) rfl;have J:Hid (∀W,(MM W B g k m n x u L o E D c O N p X/\aF W w.heap.size 254 (eC 8 a b F G)/\cB g k m D c D c w W)->MM (W.ψ g (3+F) (.bool true)) B g k m n x u L o E D c O (xD N F) p X/\cB g k m D c D c w (W.ψ g (3+F) (.bool true))):=λW r=>⟨(r.1.mark F q).1,r.2.2.trans (r.1.mark F q).2⟩;have:=d.row.cell? (EP F q);have:=d.row.frozen (3+F);have:=K _ _ _ _ _ d y;have:=h.lm;have:=h.lw
 have:(F:Int)<256:=by omega
 have:(0:Int)<=F:=by omega
 have M:¬w.heap.size=g:=by omega
 have j:Hid (MM (w.alloc (.cells #[.int .u8 8,ι a,ι b,ι F,ι G] 254)) B g k m n x u L o E D c O N p X/\aF (w.alloc (.cells #[.int .u8 8,ι a,ι b,ι F,ι G] 254)) w.heap.size 254 (eC 8 a b F G)/\cB g k m D c D c w (w.alloc (.cells #[.int .u8 8,ι a,ι b,ι F,ι G] 254))):=⟨d,y,I⟩;go_in;go_wp2
 generalize w.alloc (.cells #[.int .u8 8,ι a,ι b,ι F,ι G] 254)=V at*;have H:Hid (MM V.drew B g k m n x u L o E D c O N p X/\aF V.drew w.heap.size 254 (eC 8 a b F G)/\cB g k m D c D c w V.drew):=⟨j.1.aD (X5 _ V).drew,j.2.1,j.2.2.trans (cB.aD (X5 _ V).drew)⟩;have:=(j.2.1.dI M (3+F) (.bool true)).cell? (i:=3) rfl;go_region_held3 (λf=>f.χ w.heap.size 3=some (ι F)) (go_keep) (fail)
 all_goals go_wp2
 all_goals go_end0
 all_goals exact⟨rfl,D,c,J _ H⟩
end
def sG(a:gO)(c:jb)(b:Nat):Nat:=if a.op=6 then(if c.getLast?.getD false then b else a.next+a.first) else b
def C_{st:jb}(h:1<=st.length):∃a y,st=a++[y]:=by
 obtain rfl|⟨b,y,rfl⟩:=adA st
 ·simp at h
 exact⟨b,y,by simp⟩
def VM(h:2<=st.length):∃a x y,st=a++[x,y]:=by obtain⟨b,y,rfl⟩:=C_ (Ye (by omega) h);obtain⟨a,x,rfl⟩:=C_ (st:=b) (by simp at h;omega);exact⟨a,x,y,by simp⟩
structure oU(w:ay)(L be oe:Nat)(ae:fY)(ef:ga)(S:fv):Prop where
 jP:0<ef.length->ae=some ⟨be,oe,none⟩
 rd:kX w L be oe ef
 aX:∀e∈ef,∀f∈e.cE,f.aL∈S
 xB:ef.length<=8388608
 cE:∀e∈ef,e.cE.length<=8388608
 fU:S.length<=8388608
def VG(b:gO)(r:fY)(o L E C:Nat)(S:fv)(B c g k D:Nat)(W:fY)(R:Nat)(ss:fv)(ef:ga)(vs p:az)(st:jb)(fl:Nat->Bool)(m:Nat)(X:Wd)(w:ay)(h:MM w B c g k D W R ss (.slice r ef.length o) ef vs p st fl m X)(Z:1<=b.op)(h8:b.op<=8)(t:oX ss.length b)(z:Pl.ig b.op<=st.length)(l:st.length<=18)(N:b.first<=65535)(A:b.op=4\/b.op=8->b.first<256)(s:b.next<=8388608)(P:X.exit=0)(j:oU w L E C r ef S)(Y:L<=c)(K:L<=g)(V:L<=k)(O:Fit S X.aW)(U:X.aI.length<=8388608):
 Calls prog 133 #[π c,gE b] w λe v=>e=.returned (.tuple #[])/\∃br bY,MM v B c g k D W R ss (.slice r ef.length o) ef br bY (dB ss ef b st fl X).2.1 (dB ss ef b st fl X).2.2.1 (sG b st m) (dB ss ef b st fl X).2.2.2/\cB c g k vs p br bY w v:=by
 have⟨op,f,d,F,G⟩:=b;simp only at*;unfold gE;have J:op=1\/op=2\/op=3\/op=4\/op=5\/op=6\/op=7\/op=8:=by omega
 have q:∀n (s:n<ss.length),ss.getD n []=ss[n]:=λn s=>by rw[Yf,X9 s];rfl
 obtain rfl|rfl|rfl|rfl|rfl|rfl|rfl|rfl:=J
 ·exact UZ f d F G _ _ _ _ _ _ _ _ _ _ _ _ _ _ _ _ w h l (t.1 rfl)
 ·have i:=t.2.1 (.inl rfl);have:=UC f d F G _ _ _ _ _ _ _ _ _ _ _ _ _ _ _ _ w h l i;rw[<-q F i]at this;exact this
 ·have⟨i,H⟩:=t.2.2 rfl;have:=Uh f d F G _ _ _ _ _ _ _ _ _ _ _ _ _ _ _ _ w h l i H;rw[<-q F i,<-q G H]at this;exact this
 ·exact Ul f d F G _ _ _ _ _ _ _ _ _ _ _ _ _ _ _ _ w h l (A (.inl rfl))
 ·obtain⟨a,x,y,rfl⟩:=VM z;have:=Uj a x y f d F G _ _ _ _ _ _ _ _ _ _ _ _ _ _ _ w h (by simp at l;omega);have Q:(a++[x,y]).dropLast.dropLast=a:=by rw[show a++[x,y]=(a++[x])++[y] by simp,Z6,Z6]
  have M:(a++[x,y]).getLast?.getD false=y:=by simp
  have T:(a++[x,y]).dropLast.getLast?.getD false=x:=by rw[show a++[x,y]=(a++[x])++[y] by simp,Z6];simp
  have u:dB ss ef ⟨5,f,d,F,G⟩ (a++[x,y]) fl X=(d,a++[y||x],fl,X):=by unfold dB;simp only[Q,M,T];rfl
  rw[u];exact this
 ·obtain⟨a,y,rfl⟩:=C_ z;have:=Us a y f d F G _ _ _ _ _ _ _ _ _ _ _ _ _ _ _ w h (by simp at l;omega) s N;have u:(dB ss ef ⟨6,f,d,F,G⟩ (a++[y]) fl X).2=(a,fl,X):=by unfold dB;simp
  have I:sG ⟨6,f,d,F,G⟩ (a++[y]) m=if y then m else d+F:=by unfold sG;simp
  rw[u,I];exact this
 ·have i:=t.2.1 (.inr rfl);have:=UR f d F G _ _ _ _ _ _ _ _ r o L E C S _ _ _ _ _ _ _ w h i P j.jP j.rd Y K V O j.fU j.aX j.xB j.cE U;rw[<-q F i]at this;exact this
 exact Uc f d F G _ _ _ _ _ _ _ _ _ _ _ _ _ _ _ _ w h (A (.inr rfl))
end
namespace Pl
open RowKit
inductive Reach (c:Bs):Nat->Nat->Prop
 |vL (p:Nat):Reach c p p
 |on {p q:Nat} (hp:p<c.length) (hw:cU c p) (h:Reach c (bH c p).next q):Reach c p q
def Reach.le(h:Reach c B bx):B<=bx:=by
 induction h with
 |vL=>omega|on b a h d=>have:=sY a;omega
theorem Gl:∀{f p h:Nat} {A:Aw} {q x:Nat},zQ c B f p h A->A q=some x->Reach c p q
 |0,_,_,_,_,_,h,_=>h.elim
 |f+1,p,h,A,q,x,s,b=>by
  by_cases d:q=p
  ·subst d;exact .vL _
  obtain⟨_,⟨e,r,v,_,_,u,t⟩|⟨e,_,l⟩⟩:=s
  ·have:nC A (bH c p) h q=some x:=by
    unfold nC put;have a:del A p q=some x:=by unfold del;rw[Yb d];exact b
    split
    ·rename_i i;dsimp only;split
     ·rename_i j;have:=u i x (by rw[<-j];exact a);rw[this];rfl
     exact a
    exact a
   exact .on e r (Gl t this)
  rw[l q d]at b;cases b
def Sn.zb(d:Sn c B bx bf)(a:bx<c.length)(e:opAt c bx=6):Reach c (bH c bx).next ((bH c bx).next+(bH c bx).first):=by have⟨A,i⟩:=d;have⟨_,_,_,_,_,_,f,b⟩:=(rj a).1 i;refine Gl b (x:=eX (opAt c bx) bf) ?_;unfold nC put;rw[Yd (show (bH c bx).op=6 from e)];simp;rfl
end Pl
section
open RowKit MapKept ChangeMaps Maps
structure qH(c:aj)(ss:fv)(ef:ga)(S:fv)(R:Wd)(aZ:List (gO×Bool))(p:Nat)(st:jb)(fl:Nat->Bool)(go:Nat)(X:Wd):Prop where
 tS:∃f,j5 c aZ f p
 sn:Sn c ss.length (max p go) st.length
 en:Pl.Ends c ss ef (max p go) st fl X R
 zb:p<go->Pl.Reach c p go
 x0:X.exit=0
 tT:Fit S X.aW
 cm:X.aI.length<=p
def qH.cut{m k:List (gO×Bool)}{x:gO×Bool}(h:qH c ss ef S R m B st fl bx D)(e:kJ c (c.length+1) 0=m++x::k):B<c.length/\Pl.cU c B/\x=(bH c B,true)/\∃g,j5 c (m++[x]) g (bH c B).next:=by
 obtain⟨f,i⟩:=h.tS;have a:B<c.length:=by
  by_cases a:B<c.length
  ·exact a
  have b:=i.done a;rw[e]at b;simp at b
 have d:Pl.cU c B:=by
  by_cases q:B<bx
  ·cases h.zb q with|vL=>omega|on _ d _=>exact d
  have j:=h.sn;rw[afv (by omega)]at j;exact(j.zx a).cU
 obtain⟨g,b,l⟩:=i.step a d;rw[e]at b;have:=acR b;simp only[ob]at this;obtain⟨rfl,_⟩:=this;exact⟨a,d,rfl,g,l⟩
section
variable {aZ:List (gO×Bool)}{x:gO×Bool}{p:Nat}{go:Nat}{X:Wd}
def qH.skip(h:qH c ss ef S R aZ p st fl go X)(i:p<go)(j:∃g,j5 c (aZ++[x]) g (bH c p).next)(f:Pl.cU c p):qH c ss ef S R (aZ++[x]) (bH c p).next st fl go X:=by
 have l:=sY f;have b:Pl.Reach c (bH c p).next go:=by
  cases h.zb i with
  |vL=>omega|on _ _ h=>exact h
 have d:=b.le;have e:=h.sn;have a:=h.en;rw[ae1 (by omega)]at e a;exact⟨j,by rw[ae1 d];exact e,by rw[ae1 d];exact a,λ_=>b,h.x0,h.tT,by have:=h.cm;omega⟩
def qH.next(h:qH c ss ef S R aZ p st fl go X)(I:¬p<go)(i:p<c.length)(z:∀e∈ef,∀f∈e.cE,f.aL∈S)(G:∃g,j5 c (aZ++[x]) g (bH c p).next):
 ((dB ss ef (bH c p) st fl X).2.2.2.exit=0->qH c ss ef S R (aZ++[x]) (bH c p).next (dB ss ef (bH c p) st fl X).2.1 (dB ss ef (bH c p) st fl X).2.2.1 (sG (bH c p) st go) (dB ss ef (bH c p) st fl X).2.2.2)/\
 (¬(dB ss ef (bH c p) st fl X).2.2.2.exit=0->(dB ss ef (bH c p) st fl X).2.2.2=R):=by
 have b:=h.sn;have s:=h.en;rw[afv (by omega)]at b s;have t:=b.zx i;have J:=sY t.cU;have⟨y,H⟩:=b.next (ss:=ss) (ef:=ef) (fl:=fl) (X:=X) i;have l:=s.step i h.x0 H;have E:(dB ss ef (bH c p) st fl X).1=max (bH c p).next (sG (bH c p) st go):=by
  unfold sG;have u:(bH c p).op=Pl.opAt c p:=rfl;by_cases a:(bH c p).op=6
  ·rw[Yd a];have r:(dB ss ef (bH c p) st fl X).1=if st.getLast?.getD false then(bH c p).next else(bH c p).next+(bH c p).first:=by unfold dB;rw[a];simp
   rw[r];split<;>omega
  rw[Yb a];have r:(dB ss ef (bH c p) st fl X).1=(bH c p).next:=by unfold dB;rcases B8 t.cU.1 with e|e|e|e|e|e|e|e<;>first|(exact absurd (u.trans e) a)|(rw [u,e];simp)
  rw[r];omega
 rw[E]at y l;refine⟨λq=>⟨G,y,l,λj=>?_,q,?_,?_⟩,λq=>l.stop (λe=>q e.2)⟩
 ·unfold sG at j⊢;split at j
  ·rename_i a;rw[Yd a];split at j
   ·omega
   rename_i A;rw[Yb A];exact b.zb i a
  omega
 ·have:(dB ss ef (bH c p) st fl X).2.2.2=X\/∃d,(dB ss ef (bH c p) st fl X).2.2.2=eI ef X d:=by
   unfold dB
   repeat' split
   all_goals first|exact .inl rfl|exact .inr ⟨_,rfl⟩
  obtain e|⟨d,e⟩:=this
  ·rw[e];exact h.tT
  rw[e];have v:=h.tT;unfold eI;split
  ·exact v
  rename_i C F;exact Fit.vP _ _ v (z C (YV F))
 have:(dB ss ef (bH c p) st fl X).2.2.2.aI.length<=X.aI.length+1:=by
  unfold dB
  repeat' split
  all_goals first|(simp only;omega)|(simp only[AG];simp)
 have:=h.cm;omega
end
open Shelf
section
attribute [local go_sem] Kp
section
variable {X:ay}{bm:Nat}{ap:fY}{go:Nat}
def GL(h:W.ownsRow B bx bf ve n f)(j:∀a,s=some a->∃o:Obj,W.heap[a]?=some o/\o.isCells=false):ve.ownBlock=none\/ve.ownBlock≠s:=by
 cases bx:ve.ownBlock with
 |none=>exact .inl rfl
 |some k=>right;intro d;have⟨r,q,l⟩:=dZ h k bx;have⟨o,b,i⟩:=j k d.symm;rw[l]at b;cases b;cases i
def MM.bG(h:MM X B bm bx bf bi ap cp ss ve ef vs vg st fl go D)(d:X.grownBy Y s)(i:∀a,s=some a->B<=a/\∃o:Obj,X.heap[a]?=some o/\o.isCells=false):MM Y B bm bx bf bi ap cp ss ve ef vs vg st fl go D:=by
 obtain⟨b,j,r⟩:=h.a_;have row:=h.lm;have t:=h.lx;have v:=h.lf;have q:=h.li;have u:=h.lw;have f:Tn (λk=>B<=k) X Y:=Tn.grown d (λk e=>(i k e).1);exact⟨h.row.tn f (by omega),h.pw.tn f (by omega) (by omega) (by omega),⟨b,j,sQ r (λl=>f.block b (by have:=(j l).2.1;omega) (by have:=(j l).2.1;omega))⟩,
  Y' h.ia d (GL h.ia (λa e=>(i a e).2)),Y' h.gz d (GL h.gz (λa e=>(i a e).2)),row,t,v,q,Ye u d.size,h.n1,h.n2,h.n3⟩
def cB.vi(h:MM X B bm bx bf bi ap cp ss ve ef vs vg st fl go D)(d:cB bm bx bf vs vg br bY X Y):KeepsFrom B X Y:=by
 have:=h.lm;have:=h.lx;have:=h.lf;refine⟨d.tn.size,λk o l a f=>(d.tn.block k (X8.1 a).1 (λe=>?_)).trans a⟩;obtain e|e|e|e|e:=e
 ·omega
 ·omega
 ·omega
 ·have⟨i,j,b⟩:=dZ h.ia k e.symm;rw[b]at a;cases a;cases f
 have⟨i,j,b⟩:=dZ h.gz k e.symm;rw[b]at a;cases a;cases f
def cB.kp{Bt l:Nat}(h:MM X B bm bx bf bi ap cp ss ve ef vs vg st fl go D)(a:cB bm bx bf vs vg br bY X Y)(v:Bt<B)(t:Bt≠bm)(j:Bt≠bx)(q:Bt≠bf):jn Bt l X Y:=by
 refine⟨λc f e=>(a.tn.block _ (X8.1 e).1 (λk=>?_)).trans e,λd c f e=>(a.tn.block _ (X8.1 e).1 (λk=>?_)).trans e,a.tn.size⟩
 ·obtain k|k|k|k|k:=k
  ·exact t k
  ·exact j k
  ·exact q k
  ·have:=(h.ia.lt Bt k.symm).1;omega
  have:=(h.gz.lt Bt k.symm).1;omega
 obtain k|k|k|k|k:=k
 ·subst k;have:=h.row;unfold aF at this;rw[this]at e;cases e
 ·subst k;have:=h.pw.row;unfold aF at this;rw[this]at e;cases e
 ·subst k;have⟨u,y,r,_⟩:=h.pw.aW;rw[r]at e;cases e
 ·have⟨i,s,b⟩:=dZ h.ia d k.symm;rw[b]at e;cases e
 have⟨i,s,b⟩:=dZ h.gz d k.symm;rw[b]at e;cases e
end
structure o_(n:Nat)(w:ay)(bm bx bf bi:Nat)(ap:fY)(cp:Nat)(ss:fv)(ve:az)(ef:ga)(vs vg:az)(st:jb)(fl:Nat->Bool)(go:Nat)(D:Wd)(W:ay):Prop where
 mm:MM W (n+2) bm bx bf bi ap cp ss ve ef vs vg st fl go D
 df:aF W n 256 [π bm]
 tn:Tn (λk=>k=bm\/k=bx\/k=bf) w W
section
variable {X:ay}{bm:Nat}{ap:fY}{go:Nat}
def o_.bG(l:w.heap.size=n)(h:o_ n w bm bx bf bi ap cp ss ve ef vs vg st fl go D X)(a:X.grownBy Y s)(d:∀b,s=some b->n+2<=b/\∃o:Obj,X.heap[b]?=some o/\o.isCells=false):o_ n w bm bx bf bi ap cp ss ve ef vs vg st fl go D Y:=by have f:Tn (λk=>n+2<=k) X Y:=Tn.grown a (λk e=>(d k e).1);refine⟨h.mm.bG a d,h.df.tn f (by omega),⟨a.os.trans h.tn.os,a.tape.trans h.tn.tape,a.output.trans h.tn.output,Ye h.tn.size a.size,λk j i=>(f.block k ?_ (by omega)).trans (h.tn.block k j i)⟩⟩;have:=h.tn.size;omega
def o_.aD(h:o_ n w bm bx bf bi ap cp ss ve ef vs vg st fl go D X)(a:μ X Y):o_ n w bm bx bf bi ap cp ss ve ef vs vg st fl go D Y:=⟨h.mm.aD a,h.df.aD a,h.tn.trans (Tn.aD a)⟩
def o_.DS(v:w.heap.size=n)(h:o_ n w bm bx bf bi ap cp ss ve ef vs vg st fl go D X)(u:bm<n/\bx<n/\bf<n)(r:MM Y (n+2) bm bx bf bi ap cp ss ve ef br bY y z d R)(a:cB bm bx bf vs vg br bY X Y):o_ n w bm bx bf bi ap cp ss ve ef br bY y z d R Y:=by
 have t:=h.tn.size;have j:∀k,some k=vs.ownBlock->n+2<=k:=λk e=>(h.mm.ia.lt k e.symm).1;have l:∀k,some k=vg.ownBlock->n+2<=k:=λk e=>(h.mm.gz.lt k e.symm).1;refine⟨r,h.df.tn a.tn (λe=>?_),⟨a.tn.os.trans h.tn.os,a.tn.tape.trans h.tn.tape,a.tn.output.trans h.tn.output,Ye t a.tn.size,λk s b=>(a.tn.block k (by omega) (λe=>?_)).trans (h.tn.block k s b)⟩⟩
 ·rcases e with e|e|e|e|e
  ·omega
  ·omega
  ·omega
  ·have:=j n e;omega
  have:=l n e;omega
 rcases e with e|e|e|e|e
 ·exact b (.inl e)
 ·exact b (.inr (.inl e))
 ·exact b (.inr (.inr e))
 ·have:=j k e;omega
 have:=l k e;omega
end
structure W7(w:ay)(bm bx bf bi:Nat)(ap:fY)(cp:Nat)(ss:fv)(ve:az)(ef:ga)(D:Wd)(W:ay):Prop where
 all:∃vs vg st fl go,MM W (w.heap.size+2) bm bx bf bi ap cp ss ve ef vs vg st fl go D
 tn:Tn (λk=>k=bm\/k=bx\/k=bf) w W
def C9(n b:Nat)(s:aA)(a:Nat)(x:gO×Bool):Act:={tmps:= #[π b,.string s,π n,undef,π a,.string s,
 .func (.func 169) #[] #[π (n+1)],gE x.1,.bool x.2,undef,undef,undef,undef,undef,undef,undef,undef,undef,undef,undef,undef,undef,undef,undef],defers:=[]}
def vk(a:Nat)(s:aA)(w:ay):ay:=(w.alloc (.cells #[π a] 256)).alloc (.cells #[.string s] 9)
def Rt(a:Nat)(s:aA)(w:ay):aF (vk a s w) w.heap.size 256 [π a]/\(vk a s w).heap[w.heap.size+1]?=some (.cells #[.string s] 9 (0,0))/\(vk a s w).heap.size=w.heap.size+2/\μ w (vk a s w):=by refine⟨(aF.bq w 256 [π a]).aD (ak _ _),?_,by simp[vk],(ak w _).alloc (by simp only[X_];omega) _⟩;have:=aF.bq (w.alloc (.cells #[π a] 256)) 9 [.string s];rw[X_]at this;exact this
def MM.wide(r:R.aI=[])(h:MM w B bx bf bi cp t i ss ve ef (ς) (ς) [] fl n R)(j:μ w Z)(e:B<=d)(q:d <=Z.heap.size):MM Z d bx bf bi cp t i ss ve ef (ς) (ς) [] fl n R:=by have⟨b,c,l⟩:=(h.aD j).a_;have a:=h.aD j;exact⟨a.row,a.pw,⟨b,λf=>⟨(c f).1,Yo (c f).2.1 e,(c f).2.2⟩,l⟩,YG _ _ _ _,by rw[r];exact YG _ _ _ _,Yo a.lm e,Yo a.lx e,Yo a.lf e,Yo a.li e,q,a.n1,a.n2,a.n3⟩
def oU.tn{p:Nat->Prop}(h:oU w B d i t ef S)(e:Tn p w W)(f:B<=w.heap.size)(b:∀k,p k->B<=k):oU W B d i t ef S:=⟨h.jP,h.rd.aP (e.aP f b),h.aX,h.xB,h.cE,h.fU⟩
def Um(s:aA)(A:s.size<=8388608)(v:fY)(ce L be oe:Nat)(S:fv)(bm bx bf bi:Nat)(ap:fY)(cp:Nat)(ss:fv)(ef:ga)(X:Wd)(w:ay)(Q:MM w w.heap.size bm bx bf bi ap cp ss (.slice v ef.length ce) ef (ς) (ς) [] (λ_=>false) 0 X)(aS:Sn s.data.toList ss.length 0 0)(hx:X.exit=0)(hc:X.aI=[])(hE:oU w L be oe v ef S)(aQ:L<=bm)(aT:L<=bx)(aU:L<=bf)(aM:Fit S X.aW):
 CallsIn Fence.wide 9 prog 82 #[π bm,.string s] w λe w'=>e=.returned (.tuple #[])/\W7 w bm bx bf bi ap cp ss (.slice v ef.length ce) ef (gm s.data.toList ss ef X) w':=by
 have aV:Tryz.prog.follows .mixedOrders=true:=by kernel_rfl
 refine acs func82 rfl trivial ?_;simp only[ntmps82,ZM,Ya,Yr,Nat.reduceAdd,Nat.reduceSub,Rr,RR,R3,R1,Y2,Y3];gi_wp2_with fail
 refine⟨trivial,(Zm.2 (instructions_any)).mono ?_⟩;rintro e w2⟨rfl,rfl⟩;gi_wp2_with fail
 obtain⟨ax,am,E,ag⟩:=Rt bm s w;have aB:=Q.wide hc ag (IH _ 2) (by rw[E];omega);unfold vk at ax am E ag aB;generalize (w.alloc (.cells #[π bm] 256)).alloc (.cells #[.string s] 9)=V at*;have a9:=Q.lm;have a5:=Q.lx;have a1:=Q.lf;have a2:L<=w.heap.size:=by omega
 generalize t:w.heap.size=n at*;have au:=YJ s;generalize hR:gm s.data.toList ss ef X=R at*;refine Ba (gf:=169) (lb:= #[π (n+1)]) rfl (mL func169 (by kernel_rfl) rfl)
  (I1 s (n+1) V A am) jn.trans (λa P o o' _ hl ho=>jn.putObj _ a P o o' hl ho) (X5 _ _) (λ_=>rfl)
  (λaZ a=>∃p B W m D Z vg,qH s.data.toList ss ef S R aZ p B W m D/\o_ n w bm bx bf bi ap cp ss (.slice v ef.length ce) ef Z vg B W m D a)
  (λc _ a=>c=.ret/\∃Z vg B W m,o_ n w bm bx bf bi ap cp ss (.slice v ef.length ce) ef Z vg B W m R a)
  (λs X Y row A O z=>by obtain⟨p,B,W,m,D,Z,vg,b,r⟩:=A;exact⟨p,B,W,m,D,Z,vg,b,r.bG t O (by rw[<-E];exact z)⟩)
  (λc s X Y row A O z=>by obtain⟨b,Z,vg,B,W,m,r⟩:=A;exact⟨b,Z,vg,B,W,m,r.bG t O (by rw[<-E];exact z)⟩)
  ⟨0,[],λ_=>false,0,X,_,_,⟨⟨_,j5.start _⟩,aS,by rw[<-hR];exact Pl.Ends.start _ _ _ _,by omega,hx,aM,by rw[hc];simp⟩,⟨aB,ax,Tn.aD ag⟩⟩
  (λx a' a=>∃F,n+1<F/\aF a F 254 [.int .u8 x.1.op,ι x.1.bp,ι x.1.next,ι x.1.first,ι x.1.pN]/\a' =C9 n bm s F x)
  (λx a' s X Y row A O z=>by obtain⟨F,b,r,h3⟩:=A;exact⟨F,b,aF.bG V.heap.size _ _ _ () X Y row r O z,h3⟩) ?assign ?body ?done ?stop
 case assign=>
  rintro P aZ⟨j,ok⟩post a K _ hi y;have a6:n+2<=a.heap.size:=by obtain⟨_,_,_,_,_,_,_,_,h⟩:=hi;exact h.mm.lw
  unfold xu gE;gi_wp2
  have hb:=ak a (.cells #[.int .u8 j.op,ι j.bp,ι j.next,ι j.first,ι j.pN] 254);refine y _ _ (qj hb) (jn.aP (by omega) hb) ?_ ⟨a.heap.size,by omega,aF.bq a 254 _,rfl⟩;obtain⟨p,B,W,m,D,Z,vg,b,r⟩:=hi;exact⟨p,B,W,m,D,Z,vg,b,r.aD hb⟩
 case body=>
  rintro P aZ x post a' a T⟨p,B,W,m,D,Z,vg,d,i⟩⟨F,a7,af,rfl⟩;obtain⟨G,q,rfl,N⟩:=d.cut T;obtain⟨d0,d1,d2,d3,d4⟩:=af.y7;have b0:=i.df.cell 0 (by simp);simp only[X6]at b0;have g0:=i.mm.row.cell? (i:=259) (pE 0);have aa:(bH s.data.toList p).bp=p:=rfl;have hF:=Jj s.data.toList p;have an:=sY q;have aE:=yU q;have aY:p<=8388608:=by omega
  have C:=aC i;have a0:=aC N;have HS:=aC d;have HP:=aC G;have HW:=aC q;by_cases hg:p<m
  ·have aN:=aC (d.skip hg N q);have tg:(p:Int)<m:=by omega
   simp only[aa]at d1;clear T d i af N q au an aE aa;generalize bH s.data.toList p=j at*;unfold C9 gE;simp only;gi_wp2_with fail
   gi_region_o
   all_goals gi_wp2_with fail
   all_goals exact⟨qj (X5 _ a).drew,jn.aP (by have:=C.u.mm.lw;omega) (X5 _ a).drew,_,_,_,_,_,_,_,aN.u,C.u.aD (X5 _ a).drew⟩
  have tg:¬((bH s.data.toList p).bp:Int)<(m:Int):=by rw[aa];omega
  have aK:=d.next hg G hE.aX N;have ai:=d.sn;rw[afv (by omega)]at ai;have H:=ai.zx G;obtain⟨b,h8⟩:=II q;have ao:(bH s.data.toList p).op=4\/(bH s.data.toList p).op=8->(bH s.data.toList p).first<256:=λe=>by
   have e':Pl.opAt s.data.toList p=4\/Pl.opAt s.data.toList p=8:=e;have hz:jt (Pl.opAt s.data.toList p)=2:=by rcases e' with e' |e' <;>rw[e']<;>rfl
   have:(bH s.data.toList p).first=Pl.opAt s.data.toList (p+1):=by unfold bH;simp[hz]
   rw[this];exact yV _ _
  have aJ:oU a.drew L be oe v ef S:=hE.tn (i.tn.trans (Tn.aD (X5 _ a).drew)) (by omega) (λk e=>by omega);have aO:B.length<=18:=by
   have z:=H.eX;have ht:=H.ig;unfold Pl.eX at z;have:Pl.ig (Pl.opAt s.data.toList p)<=2:=by unfold Pl.ig;split<;>(try split)<;>omega
   omega
  have CD:=aC (VG (bH s.data.toList p) v ce L be oe S (n+2) bm bx bf bi ap cp ss ef Z vg B W m D a.drew (i.mm.aD (X5 _ a).drew) b h8 H.bL H.ig aO hF ao (by omega) d.x0 aJ aQ aT aU d.tT (by have:=d.cm;omega));have av:=aC aK;clear T d i af N q au an aE aa aK ai H ao aJ b h8;generalize bH s.data.toList p=j at*;generalize dB ss ef j B W D=ac at*;generalize sG j B m=a3 at*;unfold C9 gE at*;simp only;gi_wp2_with fail
  gi_region_o
  all_goals gi_wp2_with fail
  all_goals refine⟨trivial,(so P (Zm.2 CD.u)).mono ?_⟩
  all_goals rintro e W2⟨rfl,a8,a4,ah,U⟩
  all_goals have ab:=(C.u.aD (X5 _ a).drew).DS t ⟨by omega,by omega,by omega⟩ ah U
  all_goals have ar:=aC (cB.vi (C.u.mm.aD (X5 _ a).drew) U)
  all_goals have aG:=aC (cB.kp (l:=P) (Bt:=n+1) (C.u.mm.aD (X5 _ a).drew) U (by omega) (by omega) (by omega) (by omega))
  all_goals have b2:=ab.df.cell 0 (by simp)
  all_goals simp only[X6]at b2
  all_goals have g2:=ah.row.cell? (i:=261) (pE 2)
  all_goals have al:=aC ab
  all_goals clear ab ah U CD d0 d1 d2 d3 d4 b0 g0
  all_goals by_cases aH:ac.2.2.2.exit=0
  all_goals gi_wp2_with fail
  all_goals first
   |exact⟨(qj (X5 _ a).drew).trans (E▸ar.u),(jn.aP (by have:=C.u.mm.lw;omega) (X5 _ a).drew).trans aG.u,_,_,_,_,_,_,_,av.u.1 aH,al.u⟩
   |exact⟨(qj (X5 _ a).drew).trans (E▸ar.u),(jn.aP (by have:=C.u.mm.lw;omega) (X5 _ a).drew).trans aG.u,rfl,_,_,_,_,_,by rw[<-av.u.2 aH];exact al.u⟩
 case done=>
  rintro I a hD⟨p,B,W,m,D,Z,vg,d,i⟩y;obtain⟨f,ad⟩:=d.tS;have aw:¬p<s.data.toList.length:=by
   intro G;by_cases q:Pl.cU s.data.toList p
   ·obtain⟨g,b,r⟩:=ad.step G q;have:=Yg List.length b;simp at this
   have b:=ad.im G q;have:=Yg List.length b;simp at this
  have aq:D=R:=d.en.stop (λe=>aw (by omega));have M:=i.bG (Y:=a.putObj I (.deferred none)) t (G1 a I (.deferred none)) (λaL e=>by cases e;exact⟨by omega,_,y,rfl⟩);have J:=aC M;have aR:=aC aq;clear d ad aw aq i M;gi_wp2_with fail
  refine⟨by simp,.inl ⟨_,_,rfl,po y,?_⟩⟩;refine⟨.tuple #[],?_,rfl,⟨Z,vg,B,W,m,by rw[hR,<-aR.u,t];exact J.u.mm⟩,J.u.tn⟩;exact Zr rfl _ _ _
 rintro I c aZ post a hD T⟨rfl,Z,vg,B,W,m,i⟩y;have M:=i.bG (Y:=a.putObj I (.deferred none)) t (G1 a I (.deferred none)) (λaL e=>by cases e;exact⟨by omega,_,y,rfl⟩);have J:=aC M;clear i M;gi_wp2_with fail
 refine⟨by simp,.inl ⟨_,_,rfl,po y,?_⟩⟩;refine⟨.tuple #[],?_,rfl,⟨Z,vg,B,W,m,by rw[hR,t];exact J.u.mm⟩,J.u.tn⟩;exact Zr rfl _ _ _
end
open Go.Sort
def bF.len{a:dr}{t j v:TypeId}(h:bF w B a)(q:e.underlying t=some (.map j v))(f:TypeId):(Builtin.len_ #[t] f #[.map (some B)]).run e w=.ok (ι (a.length:Nat)) w:=by
 have⟨d,r,s,_,_,l⟩:=h;have u:d.size=a.length:=by have:=Yg List.length l;simpa using this
 have i:e.underlying t=some (.map (e.mapKeyOf t) (e.mapElemOf t)):=by simp[Program.mapKeyOf,Program.mapElemOf,q]
 rw[run_len_map _ t f B d r i s,u];rfl
def M6(w:ay){d:kt}{h:List Oper}{o:Oper}{a:Act}{Q:Exit->Act->ay->Prop}(q:o.guard=none)(m:Operand)(f:TypeId)(r:o.op=Op.call {callee:=Callee.builtin Builtin.len,args:= #[m],argTypes:= #[f]})(t y:TypeId)(j:e.underlying f=some (.map t y))(b:Nat)(i:dr)(s:a.eval m=.map (some b))(l:bF w b i)(u:wpList e d Q h (a.put o.dst (ι (i.length:Nat))) w):wpList e d Q (o::h) a w:=by refine K' q λz v=>?_;unfold Oper.wp;simp[execOp,r,resolve,invoke,builtin,s,l.len j o.type,Result.andThen];exact v _ _ u
def pZ(w:ay)(B:Nat)(v:az)(a:fy):Prop:=w.ownsRow B 65 3 v a.length (fZ a)
def Qa(n g B:Nat)(L:az)(ef:ga)(a:fy)(R:Int)(w:ay)(h:PW w n g B L ef a R)(hu:nJ a)(hl:a.length<=16777216)(hp:∀f∈a,f.aL.length<=maxLen):
 Calls prog 83 #[π n] w λe w'=>(∃v,e=.returned v/\pZ w' w.heap.size v (eB a))/\μ w w':=by
 have⟨i0,Q,H,V,O⟩:=Y1 Tryz.AM;have c0:=h.row.cell 0 (by simp);simp only[X6]at c0;have a5:=h.row.lt;have a2:=h.aW.lt;have a1:=h.first.elim (λa9 h=>h.1.lt);have ac:(dw a).length=a.length:=by unfold dw;rw[Yk]
 have HF:=h.aW;have⟨d,aO,aw,l⟩:=run_make_own (P:=prog) w w.heap.size 27 65 i0 _ 3 acU Q H V .i64 .i64 a.length (by rw[O];omega) (by unfold maxLen;omega) ax;have z:μ w d:=⟨l.os,l.tape,l.output,l.size,λk i=>l.block k i (by simp)⟩;have F:=h.aD z;have⟨D,N,A,aF⟩:=F.aW.Xb Yj (λx Y=>by unfold dw at Y;obtain⟨f,I,rfl⟩:=YC.1 Y;exact hp f I);rw[ac]at N A;have K:(strKeys D).Perm (a.map (·.aL)):=by
  have:(dw a).map (·.1)=a.map (·.aL):=by unfold dw;rw[k6];rfl
  rw[<-this];exact aF
 have CK:=λW=>Zm.1 (maps_Keys_135 (some g) W);have CS:=Zm.1 (ady g a.length D oV d N (by rw[A];unfold maxLen;omega) (by rw[A];omega));have ae:∀m:fv,m.Perm (strKeys D)->m.mergeSort (λx y=>decide (x<=y))=(eB a).map (·.aL)/\m.length=(eB a).length:=λm s=>⟨ME (s.trans K),by have:=(s.trans K).length_eq;rw[Yk]at this;rw[this,(yd a).length_eq]⟩;have ah:=aC ae;have r:=aw;have a6:=(yd a).length_eq;have aq:Hid (∀f∈eB a,cG (dw a) f.aL=some (fC f)):=λf I=>by rw[l_,TE hu ((yd a).mem_iff.1 I)];rfl
 have HI:=aC Q;have aY:=aC H;have a0:=aC V;have aN:=aC O;have X:=z.size;have y0:=F.row.cell 0 (by simp);simp only[X6]at y0;generalize a3:eB a=c at*;go_in;go_wp2_with (first|(at_len;refine M6 _ rfl _ 177 rfl 9 65 Ze g (dw a) rfl HF ?_;rw[ac])|(go_at_call 135;refine(CK _).mono ?_;rintro e w2⟨rfl,rfl⟩)|(go_at_call 134;refine CS.mono ?_;rintro e w2⟨v,m,rfl,s,E,aK,ao⟩;obtain⟨av,cv,rfl⟩:=dR E;have⟨ab,aa⟩:=ah m s;rw[ab,aa]at E;rw[aa]))
 have T:μ d (d.alloc (.cells #[.map (some g)] 177)):=ak d _;have C:=T.tr ao;have ad:=F.aD C;have ai:=bI r (λk i=>C.block k (r.lt k i).2);have aB:=kY E (Ye X T.size);have aE:=z.trans (C.mono X);go_loopw [3,19] (λvl M wr=>∃k:Nat,M=ι k/\k<=c.length/\wr.ownsRow w.heap.size 65 3 vl k (fZ (c.take k))/\wr.ownsRow w.heap.size 9 1 (.slice av c.length cv) c.length ((c.map (·.aL)).map encStr)/\PW wr n g B L ef a R/\μ w wr) (λ_ M _=>c.length-aV M)
 case atStart=>exact⟨0,rfl,Yh _,ai,aB,ad,aE⟩
 obtain⟨k,rfl,a_,j,HR,G,U⟩:=hrel;have⟨sa,sc,aM⟩:=dR j;subst aM;by_cases i:k<c.length
 ·obtain⟨gv,a7,aU,-⟩:=dv HR (by omega);cases aU;have S:=lI HR k (by simp;exact i);simp only[YT]at S;have aX:=aC (aq c[k] (Ym i));have aA:=Yn i;have aH:Hid (fZ (c.take (k+1))=fZ (c.take k)++fP c[k]):=by show _=_;rw[aA,Af]
  have z0:=G.row.cell 0 (by simp);simp only[X6]at z0;have aT:=G.aW;generalize c[k]=t at*;unfold encStr at S;have a8:=U.size;have aR:Hid (∀(o:Obj) (v':az) (Z:ay),(wr.alloc o).grownBy Z (Value.slice sa k sc).ownBlock->Z.ownsRow w.heap.size 9 1 (ξ gv c.length cv) c.length ((c.map (·.aL)).map encStr)/\PW Z n g B L ef a R/\μ w Z):=λo v' Z hg=>by
   have b:=(YZ wr o _).trans hg;have aP:Below w.heap.size wr Z:=⟨b.os,b.tape,b.output,b.size,λq hq=>b.block q (by omega) (cQ j hq)⟩;have aS:=G;refine⟨?_,aS.tn (Tn.grown (p:=λq=>w.heap.size<=q) b (λq e=>(j.lt q e).1)) ?_ ?_ ?_,U.trans aP⟩
   ·obtain e|e:=mc HR j (by decide)
    ·exact Y' HR b (.inl e)
    exact Y' HR b (.inr e)
   ·show ¬w.heap.size<=n;omega
   ·show ¬w.heap.size<=g;omega
   show ¬w.heap.size<=B;omega
  as_aux_lemma=>
   go_wp2_with (first|(at_lookup;refine nk _ rfl _ _ 177 rfl 9 65 Ze Yj _ (lX) g (dw a) rfl aT t.aL rfl (fC t) (by rw[aX.u];rfl) ?_;unfold fC)|(at_builtin;refine YX _ rfl (.tmp 23) (.tmp 30) 27 rfl w.heap.size 65 i0 _ 3 40 acU HI aY a0 aN rfl (by decide) _ k _ rfl (Yz j _) (η _ 0) 1 1 (fP t) rfl rfl (gX _ _ (fP t)) (uB t) (by unfold maxLen;omega) (by omega) (by rw[X_];omega) ?_;intro v1 w3 am ag aI;have r:=am;have J:=aR _ v1 _ ag))
   go_roundw
   case rel=>exact⟨k+1,by go_num,by omega,by rw[aH.u];exact r,J.1,J.2.1,J.2.2⟩
   simp only[aV];omega
 have al:c.take k=c:=YF (by omega);have aG:k=c.length:=by omega
 subst aG;rw[al]at j;go_wp2
 go_ret;exact⟨⟨_,rfl,j⟩,U⟩
section
attribute [local go_sem↓] G2 G3
structure Bj(l:aj)(ef:ga)(X:Wd)(bx bf:Nat)(w:ay)(e:Ending)(w':ay):Prop where
 tn:Tn (λk=>k=bx\/k=bf) w w'
 cS:(¬k_ l/\e=.returned (.tuple #[sk,ι 9]))\/
  ∃ss c vc vr,Pl.load l=some (ss,c)/\k_ l/\e=.returned (.tuple #[.agg #[vc,vr,ι (gm c ss ef X).exit,ι (gm c ss ef X).aQ],ι 0])/\
   fJ w' w.heap.size vc (gm c ss ef X).aI/\pZ w' w.heap.size vr (eB (gm c ss ef X).aW)
def OW(d:aj)(I:d.length<=8388608)(s:¬k_ d)(n:ga)(X:Wd)(g k:Nat)(w:ay):
 Calls prog 60 #[σ d,π g] w λe K=>Bj d n X g k w e K:=by
 have t:=aC s;go_in;go_wp2_with (go_at_call 59;refine((aC (λW=>Jc d W I)).u _).mono ?_;rintro e f⟨q,j⟩;obtain⟨-,rfl⟩:=q.resolve_right (λh=>by have⟨m,c,b,O,E,_⟩:=h;exact t ⟨_,O,E⟩);have r:=(aF.bq w 48 [ς,ς,ι 0,ι 0]).aD j;have J:=(ak w (.cells #[ς,ς,ι 0,ι 0] 48)).trans (j.mono (by rw[X_];omega));have a:=r.aD (ak f (.cells #[ς,ε] 120));have G:=a.cell 0 (by simp);have M:=a.cell 1 (by simp);have P:=a.cell 2 (by simp);have C:=a.cell 3 (by simp);have:=a.frozen 0;have:=a.frozen 1;have:=a.frozen 2;have:=a.frozen 3;simp only[X6,X7]at G M P C)
 have i:=(((a.set 0 (ς)).set 1 (ς)).set 2 (ι 0)).set 3 (ι 0);have A:=i.cell 0 (by simp);have z:=i.cell 1 (by simp);have y:=i.cell 2 (by simp);have l:=i.cell 3 (by simp);simp only[Zd,Y0,X6,X7]at A z y l;have N:μ f (f.alloc (.cells #[ς,ε] 120)):=ak f _;refine Yw (v:=.tuple #[sk,ι 9]) ?_ rfl ⟨Tn.aD ((((((J.tr N).setCell (p:=η w.heap.size 0) ax _).setCell (p:=η w.heap.size 1) ax _).setCell (p:=η w.heap.size 2) ax _).setCell (p:=η w.heap.size 3) ax _)),.inl ⟨t,rfl⟩⟩;simp[results,results60,go_sem,A,z,y,l,sk]
def Nb:(Tryz.zeroCells176.toList.set 0 (π bx)).set 1 (.slice t n n)=fI bx t n n (ς) (λ_=>false) 0 (ς) 0:=by kernel_rfl
def Oe(a:Nat)(b:fY)(n:Nat):(fI a b n n (ς) (λ_=>false) 0 (ς) 0).toArray.all (·.oneCell')=true:=by
 rw[List.all_toArray];unfold fI;simp only[List.all_cons,acA,List.all_map,List.all_nil];have:(List.range 256).all ((λx:az=>x.oneCell')∘λ_=>Value.bool false)=true:=by rw[uu];intro x _;rfl
 rw[this];rfl
def Mh(w:ay)(N:Nat)(a:w.heap.size=N)(b:Nat)(c:fY)(n:Nat):
 Sem.run prog (storeCells (η N 0) ((Tryz.zeroCells176.toList.set 0 (π b)).set 1 (.slice c n n))) (w.alloc (.cells zeroCells176 176))=
  .ok () (w.alloc (.cells (fI b c n n (ς) (λ_=>false) 0 (ς) 0).toArray 176)):=by
 subst a;rw[Nb];have:=run_storeCells_new (P:=prog) w 176 zeroCells176 (fI b c n n (ς) (λ_=>false) 0 (ς) 0).toArray (by kernel_rfl) (by kernel_rfl) (Oe b c n);exact this
theorem BL(S:fv)(c:aj)(j:fv)(g:ga)(a:∀e∈g,∀f∈e.cE,f.aL∈S):∀(f p:Nat) (st:jb) (fl:Nat->Bool) (X:Wd),Fit S X.aW->Fit S (pX c j g f p st fl X).aW
 |0,_,_,_,_,h=>h
 |f+1,p,st,fl,X,h=>by
  rw[pX];split
  ·refine BL S c j g a f _ _ _ _ ?_;have:(dB j g (bH c p) st fl X).2.2.2=X\/∃d,(dB j g (bH c p) st fl X).2.2.2=eI g X d:=by
    unfold dB
    repeat' split
    all_goals first|exact .inl rfl|exact .inr ⟨_,rfl⟩
   obtain e|⟨d,e⟩:=this
   ·rw[e];exact h
   rw[e];unfold eI;split
   ·exact h
   rename_i b i;exact Fit.vP _ _ h (a b (YV i))
  exact h
def Mu{d:Obj}{c:aj}(e:PW w bx bf bi ve ef R.aW R.aQ)(v:R.exit=0)(z:R.aI=[])(l:Below (w.alloc d).heap.size (w.alloc d) Z)(q:aF Z B 9 (ss.map aK))(E:(w.alloc d).heap.size<=B):
 MM ((Z.alloc (.cells #[ξ B ss.length ss.length,σ c] 120)).alloc (.cells (fI bx (some (η B 0)) ss.length ss.length (ς) (λ_=>false) 0 (ς) 0).toArray 176)) (Z.heap.size+2) (Z.heap.size+1) bx bf bi (some (η B 0)) ss.length ss ve ef (ς) (ς) [] (λ_=>false) 0 R/\
 μ w ((Z.alloc (.cells #[ξ B ss.length ss.length,σ c] 120)).alloc (.cells (fI bx (some (η B 0)) ss.length ss.length (ς) (λ_=>false) 0 (ς) 0).toArray 176)):=by have H:=e.row.lt;have I:=e.aW.lt;have F:=e.first.elim (λJ h=>h.1.lt);have C:(w.alloc d).heap.size=w.heap.size+1:=X_ _ _;have G:=l.size;have A:=q.lt;have t:μ w (w.alloc d):=ak w _;have r:=t.trans (l.mono (by omega));have i:μ Z ((Z.alloc (.cells #[ξ B ss.length ss.length,σ c] 120)).alloc (.cells (fI bx (some (η B 0)) ss.length ss.length (ς) (λ_=>false) 0 (ς) 0).toArray 176)):=(ak Z _).alloc (by rw[X_];omega) _;have j:=r.trans (i.mono (by omega));have f:=aF.bq (Z.alloc (.cells #[ξ B ss.length ss.length,σ c] 120)) 176 (fI bx (some (η B 0)) ss.length ss.length (ς) (λ_=>false) 0 (ς) 0);rw[X_]at f;refine⟨⟨by rw[v];exact f,e.aD j,⟨B,λ_=>⟨rfl,by omega,by omega,by omega,by omega⟩,λy u=>?_⟩,YG _ _ _ _,by rw[z];exact YG _ _ _ _,by omega,by omega,by omega,by omega,by simp only[X_];omega,by omega,by omega,by omega⟩,j⟩;have:=(q.aD i).cell y (by simpa using u);rw[YO,this];simp
def Oa(H:aj)(T:H.length<=8388608)(am:k_ H)(A:fY)(x L be oe:Nat)(S:fv)(m n o:Nat)(ef:ga)(X:Wd)(w:ay)(I:PW w m n o (.slice A ef.length x) ef X.aW X.aQ)(hx:X.exit=0)(hc:X.aI=[])(hE:oU w L be oe A ef S)(aS:L<=m)(aU:L<=n)(ai:Fit S X.aW)(aG:∀p∈S,p.length<=maxLen):
 Calls prog 60 #[σ H,π m] w λe j=>Bj H ef X m n w e j:=by
 have CC:=aC (λW=>Jc H W T);have aK:=aC aG;have HL:=aC T;have:=I.row.lt;have:=I.aW.lt;have H0:=aF.bq w 48 [ς,ς,ι 0,ι 0];go_in;go_wp2_with (go_at_call 59;refine(CC.u _).mono ?_;rintro e a⟨al,Q⟩;obtain⟨g,c,b,an,aq,rfl,ar,af⟩:=al.resolve_left (λh=>h.1 am);have:=Mh (a.alloc (.cells #[ξ b g.length g.length,σ c] 120)) (a.heap.size+1) (by rw[X_]) m (some (η b 0)) g.length;have y:=Mu (c:=c) I hx hc Q ar af;have aM:=Q.size;rw[X_]at aM;have aH:=H0.aD Q;have ad:=aC an)
 have aR:=(aH.aD (ak a (.cells #[ξ b g.length g.length,σ c] 120))).aD (ak _ (.cells (fI m (some (η b 0)) g.length g.length (ς) (λ_=>false) 0 (ς) 0).toArray 176));have ac:((a.alloc (.cells #[ξ b g.length g.length,σ c] 120)).alloc (.cells (fI m (some (η b 0)) g.length g.length (ς) (λ_=>false) 0 (ς) 0).toArray 176)).heap.size=a.heap.size+2:=by simp only[X_]
 generalize (a.alloc (.cells #[ξ b g.length g.length,σ c] 120)).alloc (.cells (fI m (some (η b 0)) g.length g.length (ς) (λ_=>false) 0 (ς) 0).toArray 176)=W2 at*;have:=(IP ad.u).1;have:=HL.u;have aN:L<=w.heap.size:=by omega
 have CR:=Zm.1 (Um ⟨c.toArray⟩ (by rw[ea];omega) A x L be oe S (a.heap.size+1) m n o (some (η b 0)) g.length g ef X W2 (by rw[ac];exact y.1) ⟨_,aq⟩ hx hc (hE.tn (Tn.aD (p:=λ_=>False) y.2) aN (λk e=>e.elim)) (by omega) aS aU ai);refine κ CR λE hX=>?_;have aB:(⟨c.toArray⟩:aA).data.toList=c:=by simp
 rw[aB]at hX;obtain⟨⟨B,vg,Z,Y,D,F⟩,l⟩:=hX;rw[ac]at F;have⟨r,s,aT⟩:=fp F.gz;have M:Fit S (gm c g ef X).aW:=BL S c g ef hE.aX _ _ _ _ _ ai;have:=M.len;have:=hE.fU;generalize aE:gm c g ef X=R at*;subst aT;have ah:=aR.tn l (by omega);have ax:Tn (λk=>k=m\/k=n) w E:=⟨l.os.trans y.2.os,l.tape.trans y.2.tape,l.output.trans y.2.output,Ye y.2.size l.size,λk V q=>(l.block k (by omega) (λe=>by
  obtain e|e:=e
  ·omega
  exact q e)).trans (y.2.block k V)⟩
 have ao:Hid (MM E.drew (a.heap.size+2+2) (a.heap.size+1) m n o (some (η b 0)) g.length g (.slice A ef.length x) ef B (.slice r R.aI.length s) Z Y D R/\aF E.drew w.heap.size 48 [ς,ς,ι 0,ι 0]/\Tn (λk=>k=m\/k=n) w E.drew):=⟨F.aD (X5 _ E).drew,ah,ax.trans (Tn.aD (X5 _ E).drew)⟩;have:=F.row.cell? (i:=260) (pE 1);have:=F.row.cell? (i:=261) (pE 2);have CF:Hid (∀W,(MM W (a.heap.size+2+2) (a.heap.size+1) m n o (some (η b 0)) g.length g (.slice A ef.length x) ef B (.slice r R.aI.length s) Z Y D R/\aF W w.heap.size 48 [ς,ς,ι 0,ι 0]/\Tn (λk=>k=m\/k=n) w W)->
  Calls prog 83 #[π m] W λe j=>(∃C z,e=.returned (.slice C (eB R.aW).length z)/\pZ j (w.heap.size+1) (.slice C (eB R.aW).length z) (eB R.aW))/\
   (MM j (a.heap.size+2+2) (a.heap.size+1) m n o (some (η b 0)) g.length g (.slice A ef.length x) ef B (.slice r R.aI.length s) Z Y D R/\aF j w.heap.size 48 [ς,ς,ι 0,ι 0]/\Tn (λk=>k=m\/k=n) w j)/\
   j.χ (a.heap.size+1) 260=some (.slice r R.aI.length s)/\j.χ (a.heap.size+1) 261=some (ι R.exit)):=λW q=>by
  refine(Qa m n o _ _ _ _ W q.1.pw M.1 (by omega) (λf hf=>aK.u _ (M.2 _ (ad2 hf)))).mono ?_;rintro e j⟨⟨v,he,G⟩,ab⟩;obtain⟨C,z,rfl⟩:=fp G;have U:=q.1.aD ab;exact⟨⟨C,z,he,kY G (by have:=q.2.1.lt;omega)⟩,⟨U,q.2.1.aD ab,q.2.2.trans (Tn.aD ab)⟩,U.row.cell? (i:=260) (pE 1),U.row.cell? (i:=261) (pE 2)⟩
 have CK:Hid (∀W,(MM W (a.heap.size+2+2) (a.heap.size+1) m n o (some (η b 0)) g.length g (.slice A ef.length x) ef B (.slice r R.aI.length s) Z Y D R/\aF W w.heap.size 48 [ς,ς,ι 0,ι 0]/\Tn (λk=>k=m\/k=n) w W)->
  θ 84 #[π m] W (ι R.aQ)):=λW q=>Pm m n o _ _ _ _ W q.1.pw
 have aa:=aC aE
 have:¬w.heap.size=a.heap.size+1:=by omega
 go_wp2_with fail
 go_region_held3 (λj=>j.χ (a.heap.size+1) 260=some (.slice r R.aI.length s)/\j.χ (a.heap.size+1) 261=some (ι R.exit)) (go_keep) (first|(go_at_call 83;refine(CF.u _ ?_).mono ?_;exact ao.u;rintro e w5⟨⟨C,z,rfl,G⟩,d,z0,z1⟩;have r0:=d.2.1.cell 0 (by simp);have r1:=d.2.1.cell 1 (by simp);have r2:=d.2.1.cell 2 (by simp);have r3:=d.2.1.cell 3 (by simp);have:=d.2.1.frozen 0;have:=d.2.1.frozen 1;have:=d.2.1.frozen 2;have:=d.2.1.frozen 3;simp only[X6,X7]at r0 r1 r2 r3)|(go_at_call 84;refine(CK.u _ ?_).mono ?_;(first|exact d|exact ao.u);rintro e w6⟨rfl,rfl⟩))
 all_goals go_wp2_with fail
 have d:=d;have O:=(((d.2.1.set 0 (.slice r R.aI.length s)).set 1 (.slice C (eB R.aW).length z)).set 2 (ι R.exit)).set 3 (ι R.aQ);have o0:=O.cell 0 (by simp);have o1:=O.cell 1 (by simp);have o2:=O.cell 2 (by simp);have o3:=O.cell 3 (by simp);simp only[Zd,Y0,X6,X7]at o0 o1 o2 o3;have P:=cQ d.1.gz (N:=w.heap.size) (by omega);have K:=cQ G (N:=w.heap.size) (by omega);have J:∀(W:ay) (t:Nat) (u:az),Tn (λk=>k=m\/k=n) w W->Tn (λk=>k=m\/k=n) w (W.ψ w.heap.size t u):=λW t u l=>⟨((X5 0 W).setCell (p:=η w.heap.size t) (Yh _) u).os.trans l.os,((X5 0 W).setCell (p:=η w.heap.size t) (Yh _) u).tape.trans l.tape,((X5 0 W).setCell (p:=η w.heap.size t) (Yh _) u).output.trans l.output,Ye l.size ((X5 0 W).setCell (p:=η w.heap.size t) (Yh _) u).size,λk V q=>(Ys W (η w.heap.size t) u k (by show k≠w.heap.size;omega)).trans (l.block k V q)⟩;refine Yw (v:=.tuple #[.agg #[.slice r R.aI.length s,.slice C (eB R.aW).length z,ι R.exit,ι R.aQ],ι 0]) ?_ rfl ⟨J _ _ _ (J _ _ _ (J _ _ _ (J _ _ _ d.2.2))),.inr ⟨g,c,_,_,ad.u,am,by rw[aa.u],?_,?_⟩⟩
 ·simp[results,results60,go_sem,o0,o1,o2,o3]
 ·rw[aa.u];exact kY (cP (cP (cP (cP d.1.gz P _ _) P _ _) P _ _) P _ _) (by omega)
 rw[aa.u];exact kY (cP (cP (cP (cP G K _ _) K _ _) K _ _) K _ _) (by omega)
end
structure yA(l:aj)(fs:fy)(ef:ga)(aQ:Int)(w:ay)(e:Ending)(w':ay):Prop where
 aP:μ w w'
 cS:(¬k_ l/\e=.returned (.tuple #[sk,ι 9]))\/
  ∃ss c vc vr,Pl.load l=some (ss,c)/\k_ l/\e=.returned (.tuple #[.agg #[vc,vr,ι (gm c ss ef (fK fs aQ)).exit,ι (gm c ss ef (fK fs aQ)).aQ],ι 0])/\
   fJ w' w.heap.size vc (gm c ss ef (fK fs aQ)).aI/\pZ w' w.heap.size vr (eB (gm c ss ef (fK fs aQ)).aW)
def Oi(a:aj)(d:a.length<=8388608)(b:fY)(m L i f:Nat)(S:fv)(c g k:Nat)(n:ga)(X:Wd)(w:ay)(s:PW w c g k (.slice b n.length m) n X.aW X.aQ)(t:X.exit=0)(y:X.aI=[])(j:oU w L i f b n S)(u:L<=c)(v:L<=g)(l:Fit S X.aW)(q:∀p∈S,p.length<=maxLen):
 Calls prog 60 #[σ a,π c] w λe r=>Bj a n X c g w e r:=by
 by_cases h:k_ a
 ·exact Oa a d h b m L i f S c g k n X w s t y j u v l q
 exact OW a d h n X c g w
def Na(E:aj)(hl:E.length<=8388608)(i:fy)(ef:ga)(S:fv)(a G:fY)(cap b o x L M T:Nat)(A:Int)(w:ay)(ha:0<i.length->a=some ⟨b,o,none⟩)(hr:eJ (w.alloc (.cells #[ς,ς,ι 0,ι 0] 48)) b o i)(au:b<w.heap.size+1)(ai:i.length<=8388608)(H:oU (w.alloc (.cells #[ς,ς,ι 0,ι 0] 48)) L M T G ef S)(hL:L<=w.heap.size+1)(ab:∀f∈i,f.aL∈S)(ac:∀p∈S,p.length<=maxLen):
 Calls prog 30 #[σ E,.slice a i.length cap,.slice G ef.length x,ι A] w λe z=>yA E i ef A w e z:=by
 have ah:μ w (w.alloc (.cells #[ς,ς,ι 0,ι 0] 48)):=ak w _;have K:(w.alloc (.cells #[ς,ς,ι 0,ι 0] 48)).heap.size=w.heap.size+1:=X_ _ _;have CN:=z8 i ef a G cap b o x L M T A (w.alloc (.cells #[ς,ς,ι 0,ι 0] 48)) ha hr (by omega) ai H.jP H.rd (by omega) H.xB;have af:Fit S (fK i A).aW:=Fit.DD i ⟨by simp[nJ],by simp⟩ ab;have CT:∀(W:ay) (g m n:Nat),PW W g m n (.slice G ef.length x) ef (fK i A).aW A->Below (w.heap.size+1) (w.alloc (.cells #[ς,ς,ι 0,ι 0] 48)) W->w.heap.size+1<=g->w.heap.size+1<=m->Calls prog 60 #[σ E,π g] W λe z=>∃t j s y l r F C u,e=.returned (.tuple #[.agg #[.slice t j s,.slice y l r,ι F,ι C],ι u])/\
  aF z w.heap.size 48 [ς,ς,ι 0,ι 0]/\yA E i ef A w (.returned (.tuple #[.agg #[.slice t j s,.slice y l r,ι F,ι C],ι u])) ((((z.ψ w.heap.size 0 (.slice t j s)).ψ w.heap.size 1 (.slice y l r)).ψ w.heap.size 2 (ι F)).ψ w.heap.size 3 (ι C)):=λW g m n I q Q O=>by
  have hz:=q.size;rw[K]at hz;refine(Oi E hl G x L M T S g m n ef (fK i A) W I rfl rfl (H.tn (Tn.aD (p:=λ_=>False) (by unfold μ;rw[K];exact q)) (by omega) (λk e=>e.elim)) (by omega) (by omega) af ac).mono ?_;rintro e z⟨V,Z⟩;have d:=((aF.bq w 48 [ς,ς,ι 0,ι 0]).aP q (by omega)).tn V (by omega);have al:=(ah.trans (q.mono (IH _ _))).trans (V.aP (by omega) (λk e=>by omega));have X:∀u0 u1 u2 u3,μ w ((((z.ψ w.heap.size 0 u0).ψ w.heap.size 1 u1).ψ w.heap.size 2 u2).ψ w.heap.size 3 u3):=λu0 u1 u2 u3=>(((al.setCell (p:=η w.heap.size 0) ax u0).setCell (p:=η w.heap.size 1) ax u1).setCell (p:=η w.heap.size 2) ax u2).setCell (p:=η w.heap.size 3) ax u3;obtain⟨h,rfl⟩|⟨ss,c,vc,vr,q1,q2,rfl,U,P⟩:=Z
  ·exact⟨none,0,0,none,0,0,0,0,9,rfl,d,X _ _ _ _,.inl ⟨h,rfl⟩⟩
  obtain⟨t,s,rfl⟩:=fp U;obtain⟨y,r,rfl⟩:=fp P;have j:=cQ U (N:=w.heap.size) (by omega);have l:=cQ P (N:=w.heap.size) (by omega);exact⟨t,_,s,y,_,r,_,_,0,rfl,d,X _ _ _ _,.inr ⟨ss,c,_,_,q1,q2,rfl,kY (cP (cP (cP (cP U j _ _) j _ _) j _ _) j _ _) (by omega),kY (cP (cP (cP (cP P l _ _) l _ _) l _ _) l _ _) (by omega)⟩⟩
 go_in;go_wp2_with (first|(go_at_call 61;refine CN.mono ?_;rintro e w1⟨g,m,n,rfl,I,q,Q,O,h3⟩;unfold μ at q;rw[K]at q Q O)|(go_at_call 60;refine(CT _ g m n I q Q O).mono ?_;rintro e w2⟨t,j,s,y,l,r,F,C,u,rfl,d,ad⟩;have r0:=d.cell 0 (by simp);have r1:=d.cell 1 (by simp);have r2:=d.cell 2 (by simp);have r3:=d.cell 3 (by simp);have:=d.frozen 0;have:=d.frozen 1;have:=d.frozen 2;have:=d.frozen 3;simp only[X6,X7]at r0 r1 r2 r3))
 have J:=(((d.set 0 (.slice t j s)).set 1 (.slice y l r)).set 2 (ι F)).set 3 (ι C);have Y:=J.cell 0 (by simp);have R:=J.cell 1 (by simp);have D:=J.cell 2 (by simp);have B:=J.cell 3 (by simp);simp only[Zd,Y0,X6,X7]at Y R D B;refine Yw (v:=.tuple #[.agg #[.slice t j s,.slice y l r,ι F,ι C],ι u]) ?_ rfl ad;simp[results,results30,go_sem,Y,R,D,B]
def M1(h:aj)(v:h.length<=8388608)(d:fy)(m:ga)(S:fv)(a i:fY)(g b o c L r q:Nat)(j:Int)(w:ay)(C:0<d.length->a=some ⟨b,o,none⟩)(z:eJ w b o d)(A:b<w.heap.size)(y:d.length<=8388608)(s:oU w L r q i m S)(F:L<=w.heap.size)(E:∀f∈d,f.aL∈S)(t:∀p∈S,p.length<=maxLen):
 Calls prog 30 #[σ h,.slice a d.length g,.slice i m.length c,ι j] w λe u=>yA h d m j w e u:=by have l:μ w (w.alloc (.cells #[ς,ς,ι 0,ι 0] 48)):=ak w _;exact Na h v d m S a i g b o c L r q j w C (z.aP l A) (by omega) y (s.tn (Tn.aD (p:=λ_=>False) l) F (λk e=>e.elim)) (by omega) E t
theorem Hg(c:aj)(h:fv)(g:ga):∀(f p:Nat) (st:jb) (fl:Nat->Bool) (X:Wd),(pX c h g f p st fl X).aI.length<=X.aI.length+f
 |0,_,_,_,X=>X0 _
 |f+1,p,st,fl,X=>by
  rw[pX];split
  ·have a:=Hg c h g f (dB h g (bH c p) st fl X).1 (dB h g (bH c p) st fl X).2.1 (dB h g (bH c p) st fl X).2.2.1 (dB h g (bH c p) st fl X).2.2.2;have b:(dB h g (bH c p) st fl X).2.2.2=X\/∃d,(dB h g (bH c p) st fl X).2.2.2=eI g X d:=by
    unfold dB
    repeat' split
    all_goals first|exact .inl rfl|exact .inr ⟨_,rfl⟩
   obtain e|⟨d,e⟩:=b
   ·rw[e]at a⊢;omega
   rw[e]at a⊢;rw[AG,X4,Yx]at a;omega
  omega
def OB(h:Pl.load a=some (ss,c)):c.length+4<=a.length:=by
 unfold Pl.load at h;split at h
 ·rename_i b;have:=(Bp _ _ _ h).2;simp only[Zu]at this;omega
 cases h
def Ts(h:Pl.load a=some (ss,c))(b:fy)(e:ga)(d:Int):(gm c ss e (fK b d)).aI.length<=a.length:=by have:=Hg c ss e (c.length+1) 0 [] (λ_=>false) (fK b d);have:=OB h;have:(fK b d).aI.length=0:=rfl;unfold gm;omega
def Re(S:fv)(c:aj)(i:fv)(a:fy)(g:ga)(d:Int)(h:∀f∈a,f.aL∈S)(b:∀e∈g,∀f∈e.cE,f.aL∈S):(eB (gm c i g (fK a d)).aW).length<=S.length:=by rw[Je];refine Fit.len ?_;unfold gm;exact BL S c i g b _ _ _ _ _ (Fit.DD a ⟨by simp[nJ],by simp⟩ h)
def Jm(h:w.ownsRow B bx bf ve n f):∃a cap b,ve=.slice a n cap/\(0<n->a=some ⟨b,0,none⟩)/\(0<n->b<w.heap.size)/\∀i u,f[i]?=some u->w.cell? ⟨b,i,none⟩=some u:=by
 obtain⟨l,j⟩|⟨g,cap,r,l,j,s,z,A,y,t⟩:=h.2
 ·refine⟨none,0,0,?_,λh=>by omega,λh=>by omega,λi u d=>?_⟩
  ·rw[l,j]
  have:=h.1;subst j;simp only[L1,Y4]at this;subst this;simp at d
 have q:aF w g bx r.toList:=by unfold aF;simpa using s
 refine⟨some (η g 0),cap,g,l,λ_=>rfl,λ_=>q.lt,λi u d=>q.cell? ?_⟩;rw[<-t,acN]at d;split at d
 ·exact d
 cases d
def fJ.rd(h:fJ w B ve ss):∃a cap b,ve=.slice a ss.length cap/\(0<ss.length->a=some ⟨b,0,none⟩)/\(0<ss.length->b<w.heap.size)/\nU w b 0 ss:=by have⟨a,cap,b,l,d,e,i⟩:=Jm h;exact⟨a,cap,b,l,d,e,λj f=>i (0+j) _ (by simp[f])⟩
def AX{e:fy}(h:w.ownsRow B d 3 ve e.length (fZ e)):∃a cap b,ve=.slice a e.length cap/\(0<e.length->a=some ⟨b,0,none⟩)/\(0<e.length->b<w.heap.size)/\eJ w b 0 e:=by have⟨a,cap,b,t,j,l,f⟩:=Jm h;refine⟨a,cap,b,t,j,l,λs q=>?_⟩;have⟨r,i,c⟩:=ya e s q;rw[YO];exact⟨f _ _ r,f _ _ i,f _ _ c⟩
def D2(c:Nat)(h:az)(L:js)(g:Sg)(m:fv)(f:Nat)(a:Er)(i:az)(W:ay)(e:Ending)(b:ay):Prop:=∃(u:aj) (vb':az) (d:Nat),e=.returned (.string ⟨u.toArray⟩)/\XM b c h L g d vb' m a.er/\(a.er=0->u=a.bK/\d =a.bC)/\XF W b c i vb' /\u.length<=f
def Dl(c:Nat)(h:az)(L:js)(g:Sg)(d k:Nat)(m:fv):Prop:=∀(W:ay) (i:az) (a:aj) (b:Er),XM W c h L g k i m 0->b_ (nR L) (jQ g) m k [] a b->d*(a.length+fE L m)<=140000000000000->a.length<=1073741824->
 Calls prog 116 #[.pointer (some ⟨c,0,none⟩),.string ⟨a.toArray⟩] W λe f=>D2 c h L g m (d*(a.length+fE L m)) b i W e f
def XM.cells{g:Sg}(h:XM W xb vn L g k vb m er):
 W.cell? ⟨xb,0,none⟩=some vn/\W.cell? ⟨xb,6,none⟩=some (ι k)/\W.cell? ⟨xb,7,none⟩=some vb/\W.cell? ⟨xb,8,none⟩=some (ι er)/\∀a,W.frozen? (η xb a)=false:=
 ⟨h.row.cell 0 (by simp),h.row.cell 6 (by simp),h.row.cell 7 (by simp),h.row.cell 8 (by simp),h.row.frozen⟩
def PI{C:Nat}(D:300<k+1\/∀n,n∉m->Dl xb vn L g C (k+1) (m++[n]))(hC:C*fE L m<=140000000000000)(hk:k<=300)(hm:m.length<=300)(hL:L.length<=1073741824)(a1:∀x∈L,x.jF=true->x.aU.length<=2000)(aS:∀x∈L,x.aU.length<=1073741824)(W:ay)(vb:az)(name:aj)(h:XM W xb vn L g k vb m 0):
 ∃q,rJ (nR L) (jQ g) m k name q/\Calls prog 155 #[π xb,σ name] W λe W'=>D2 xb vn L g m (C*fE L m+2000) q vb W e W':=by
 unfold π σ;have⟨c0,c6,c7,c8,I⟩:=h.cells;have f6:=I 6;have f8:=I 8;have⟨i0,au,aG,aO,ao⟩:=Y1 Tryz.kZ;have a3:=aC au;have a4:=aC aG;have a5:=aC aO;have a0:=aC ao;clear au aG aO ao;by_cases H:300<k+1
 ·refine⟨⟨[],5,k+1⟩,.inl ⟨H,rfl⟩,?_⟩;have l:=h.xy (k+1) 0 (.inl ⟨rfl,rfl,rfl⟩);have r:=l.xy (k+1) 5 (.inr ⟨rfl,rfl,rfl⟩);have HF:Hid (XF W ((W.ψ xb 6 (ι ((k+1:Nat):Int))).ψ xb 8 (ι 5)) xb vb vb):=(XF.set 6 _).trans (XF.set 8 _);have M:=r;obtain⟨-,d6,-,d8,s⟩:=l.cells;have e8:=s 8;have t1:wrap64 ((k:Int)+1)=((k+1:Nat):Int):=by unfold wrap64;omega
  have t2:(300:Int)<((k+1:Nat):Int):=by omega
  clear r I s D;go_in;go_wp2_with fail
  go_ret;exact⟨[],vb,k+1,rfl,M,λq=>by simp at q,HF.u,Yh _⟩
 have l:XM (W.ψ xb 6 (ι ((k:Int)+1))) xb vn L g (k+1) vb m 0:=h.xy (k+1) 0 (.inl ⟨rfl,rfl,rfl⟩);have Q:Hid (XF W (W.ψ xb 6 (ι ((k:Int)+1))) xb vb vb):=XF.set 6 _;generalize X:W.ψ xb 6 (ι ((k:Int)+1))=W1 at*;obtain⟨a,cap,b,o,rfl,E,R,n4⟩:=l.nm;have HV:=QH L name a cap b o W1 E R hL;obtain⟨ba,bc,bb,rfl,y1,y2,y3⟩:=fJ.rd l.busy;have HI:Hid (∀G,μ W1 G ->δ 115 #[.slice ba m.length bc,σ name] G (.bool (eo name m))):=λG hb=>Fv m name ba bc bb 0 G y1 (by
  by_cases h0:0<m.length
  ·exact y3.aP hb (y2 h0)
  exact λd t=>by omega) (by omega)
 have z1:=Nat.ne_of_gt l.row.lt;have⟨d0,d6,d7,d8,s⟩:=l.cells;have e6:=s 6;have e7:=s 7;have e8:=s 8;have t1:wrap64 ((k:Int)+1)=(k:Int)+1:=by unfold wrap64;omega
 have t2:¬(300:Int)<k+1:=by omega
 have HT:=D.resolve_left H;have ai:=aC E;clear I s D E n4 y1 y2 y3;by_cases i:(nR L name).oA=true
 ·have a2:∃q,rJ (nR L) (jQ g) m k name q/\(name∉m->b_ (nR L) (jQ g) (m++[name]) (k+1) [] (nR L name).aU q)/\(name∈m->q=⟨[],4,k+1⟩):=by
   by_cases f:name∈m
   ·exact⟨_,.inr (.inl ⟨H,i,f,rfl⟩),λq=>absurd f q,λ_=>rfl⟩
   obtain⟨q,N,-⟩:=Bf (nR L) (jQ g) 301 (k+1) (by omega) (nR L name).aU.length (nR L name).aU ax (m++[name]) [];exact⟨q,.inr (.inr (.inl ⟨H,i,f,N⟩)),λ_=>N,λq=>absurd q f⟩
  obtain⟨q,N,av,aH⟩:=a2;refine⟨q,N,?_⟩;have aw:=aC aH;clear N aH;go_in;go_wp2_with fail
  refine HV.mono ?_;rintro e j⟨rfl,T⟩;obtain⟨d,t,rfl,f,P⟩|⟨-,f⟩:=T
  case inr=>rw[f]at i;cases i
  have z:L[d].jF=false:=by rw[f]at i;simpa using i
  obtain rfl:=ai.u (by omega);have⟨U,V,O⟩:=R d t;rw[z]at O;unfold aK at U V;have K:=aC f;have aR:=aC P;have aW:=aC z;clear P;have t3:¬(d:Int)<0:=by omega
  have t4:(d:Int)<L.length:=by omega
  have y:=(X5 j.heap.size j).alloc ax (.cells #[σ L[d].name,σ L[d].aU,.bool false] 223);have r:=l.aD y;have⟨g0,g6,g7,g8,fg⟩:=r.cells;have p8:=fg 8;clear f i z X fg;by_cases A:name∈m
  ·have S:eo name m=true:=Y6 A;have M:=r.xy (k+1) 4 (.inr ⟨rfl,rfl,rfl⟩);have B:=(Q.u.trans (XF.bq y)).trans (XF.set 8 (ι 4));have HE:=aC (aw.u A);clear r;go_wp2_with (go_at_call 115;refine(HI.u _ y).mono ?_;rintro e w3⟨rfl,rfl⟩;rw[S])
   go_ret;rw[HE.u];exact⟨[],_,k+1,rfl,M,λq=>by simp at q,B,Yh _⟩
  have S:eo name m=false:=Y9 A;have aa:=av A;rw[K.u]at aa;have aI:=IF A (Ym t) aR.u aW.u;have p:C*(L[d].aU.length+fE L (m++[name]))<=C*fE L m:=E2 _ aI;have aE:=HT name A;have H2:=aC r;have aT:=aF.bq j 223 [σ L[d].name,σ L[d].aU,.bool false];have aX:Hid (xb+1<=j.heap.size):=l.row.lt;clear r aI aw HT;go_wp2_with (first|(go_at_call 115;refine(HI.u _ y).mono ?_;rintro e w3⟨rfl,rfl⟩;rw[S])|(at_builtin;go_loud (refine YS _ rfl (.tmp 57) (.tmp 59) 30 rfl (xb+1) 9 i0 (ε) 1 16 YU a3.u a4.u a5.u a0.u rfl (by decide) _ m.length _ rfl (Yz H2.u.busy _) (η _ 0) 1 1 [σ name] rfl rfl (by have:=Zl (j.alloc (.cells #[σ L[d].name,σ L[d].aU,.bool false] 223)) (σ name) 9;rw[X_]at this;exact this) (uK) (by unfold maxLen;omega) (by omega) (by rw[X_,X_];have:=aX.u;omega) ?_;intro v3 w4 Z an aY aM;have⟨Y,r2,r3,r4⟩:=H2.u.grown an Z aM;have am:=aC r2;have ar:=aC r3;have k7:=Y.cell 7 (by simp);have l7:=Y.frozen 7;have ah:Hid (aF (w4.ψ xb 7 v3) j.heap.size 223 [σ L[d].name,σ L[d].aU,.bool false]):=(r4 _ (by rw[X_];omega) z1 (λe=>by have:=(Yt l.busy _ e.symm).2;omega)).trans aT;have m1:=ah.u.cell 1 (by simp);simp only[X6,X7]at m1;obtain⟨a8,a9,rfl⟩:=dR Z;clear Z an aY aM Y r2 r3 r4)))
  refine(aE _ _ _ q am.u aa (Ye p hC) (aS _ (Ym t))).mono ?_;rintro e w⟨u,vb',k',rfl,J,aJ,aL,aN⟩;obtain⟨F,v,aq,-,-⟩:=dv J.busy (by simp);rw[X4,Yx]at aq;subst aq;obtain⟨-,-,j7,-,fj⟩:=J.cells;have o7:=fj 7;have HP:=J.XR;have ak:Hid (XF w (w.ψ xb 7 (ξ F m.length v)) xb (ξ F (m.length+1) v) (ξ F m.length v)):=⟨(XF.set (vb:=ξ F (m.length+1) v) 7 _).bS,(XF.set 7 _).jX,.inl rfl⟩;have aV:=(((Q.u.trans (XF.bq y)).trans ar.u).trans aL).trans ak.u;have aQ:=aC aJ;have c:=aC (Ye aN (Ye p (IH _ 2000)));have a6:=B_ (show w.ownsRow (xb+1) 9 1 (ξ F (m.length+1) v) (m.length+1) ((m++[name]).map aK) from(by have:=J.busy;rw[X4,Yx]at this;exact this));have t5:(m.length:Int)<=v:=by omega
  clear J aL aJ aN fj aE am ar ah k7 l7 m1 g0 g6 g7 g8 p8 U V O p ak;have t6:IntKind.i64.wrap ((m.length:Int)+1-1)=(m.length:Int):=by rw[wrap_small (by omega) (by omega)];omega
  have t8:IntKind.i64.wrap (m.length:Int)=m.length:=wrap_small (by omega) (by omega);have t9:¬(m.length:Int)<0:=by omega
  have t7:((m.length:Int)+1-1)=(m.length:Int):=by omega
  go_wp2_with fail
  go_region_with fail
  all_goals go_wp2_with fail
  all_goals go_ret
  all_goals exact⟨u,_,k',rfl,HP.same rfl (λ_ _=>rfl) (λ_ _=>rfl),aQ.u,aV.ze,c.u⟩
 refine⟨⟨(nR L name).aU,0,k+1⟩,.inr (.inr (.inr ⟨H,by simpa using i,rfl⟩)),?_⟩;go_in;go_wp2_with fail
 refine HV.mono ?_;rintro e j⟨rfl,T⟩;obtain⟨d,t,rfl,f,P⟩|⟨rfl,f⟩:=T
 ·have z:L[d].jF=true:=by rw[f]at i;simpa using i
  have aA:=a1 _ (Ym t) z;obtain rfl:=ai.u (by omega);have⟨U,V,O⟩:=R d t;rw[z]at O;unfold aK at U V;have K:=aC f;have t3:¬(d:Int)<0:=by omega
  have t4:(d:Int)<L.length:=by omega
  have y:=(X5 j.heap.size j).alloc ax (.cells #[σ L[d].name,σ L[d].aU,.bool true] 223);have M:=l.aD y;have B:=Q.u.trans (XF.bq y);have c:Hid (L[d].aU.length<=C*fE L m+2000):=(Ye aA (Nat.le_add_left _ _));clear f i z X P aA;go_wp2_with fail
  go_ret;rw[K.u];exact⟨_,_,k+1,rfl,M,λ_=>⟨rfl,rfl⟩,B,c.u⟩
 have K:=aC f;clear f i X;go_wp2_with fail
 go_ret;rw[K.u];exact⟨[],_,k+1,rfl,l,λ_=>⟨rfl,rfl⟩,Q.u,Yh _⟩
structure XO(W:ay)(xb:Nat)(vn:az)(L:js)(g:Sg)(m:fv)(vb:az)(k:Nat)(vb':az)(er:Nat)(vo:az)(o:aj)(wr:ay):Prop where
 x:XM wr xb vn L g k vb' m er
 f:XF W wr xb vb vb'
 o:dX wr W.heap.size vo o
 lt:xb<W.heap.size
section
variable {X:ay}{p:aj}
def XO.bq(h:XM W xb vn L g k vb m er):XO W xb vn L g m vb k vb er (ς) [] W:=⟨h,XF.refl _ _ _,dX.nil _ _,h.row.lt⟩
def XO.bG(h:XO W xb vn L g m vb k vb' er vo o wr):∀q,vo.ownBlock=some q->W.heap.size<=q/\q<wr.heap.size:=λq a=>Yt h.o q a
def XO.ap(h:XO W xb vn L g m vb k vb' er vo o wr):∀q,vb'.ownBlock=some q->vo.ownBlock≠some q:=λq a d=>by
 have f:wr.ownsRow xb 9 1 vb' m.length (m.map aK):=kY h.x.busy (by omega);have b:wr.ownsRow xb 5 1 vo o.length (o.map jZ):=kY h.o (by have:=h.lt;omega);obtain e|e:=mc f b (by decide)
 ·rw[a]at e;cases e
 exact e (a.trans d.symm)
def XO.push(h:XO W xb vn L g m vb k vb' er vo o wr)(a:μ wr X)(i:X.grownBy Y vo.ownBlock)(t:dX Y W.heap.size v1 (o++p)):XO W xb vn L g m vb k vb' er v1 (o++p) Y:=by
 have s:=h.lt;have:=h.f.bS.size;have l:∀q,q<wr.heap.size->vo.ownBlock≠some q->Y.heap[q]?=wr.heap[q]?:=λq d b=>(i.block q (by have:=a.size;omega) (λe=>b e.symm)).trans (a.block q d);have r:∀q,q<W.heap.size->vo.ownBlock≠some q:=λq d b=>by have:=(h.bG q b).1;omega
 refine⟨h.x.same (l xb h.x.row.lt (r xb s)) (λq j=>l q (Yt h.x.busy q j).2 (h.ap q j)) (λq j=>l q (by omega) (r q (by omega))),⟨?_,λq d b u=>?_,h.f.jP⟩,t,s⟩
 ·exact h.f.bS.trans ⟨i.os.trans a.os,i.tape.trans a.tape,i.output.trans a.output,Ye a.size i.size,λq j=>by omega⟩
 exact(l q (by omega) (r q d)).trans (h.f.jX q d b u)
def XO.qR(h:XO W xb vn L g m vb k vb' er vo o wr)(d:XM Y xb vn L g k2 j m l)(b:XF wr Y xb vb' j):XO W xb vn L g m vb k2 j l vo o Y:=⟨d,h.f.trans b,bI h.o λq a=>b.jX q (h.bG q a).2 (by have:=(h.bG q a).1;have:=h.lt;omega) (λe=>h.ap q e.symm a),h.lt⟩
def XO.cH(h:XO W xb vn L g m vb k vb' er vo o wr)(e:Nat):XO W xb vn L g m vb k vb' e vo o (wr.ψ xb 8 (ι e)):=h.qR (h.x.xy k e (.inr ⟨rfl,rfl,rfl⟩)) (XF.set 8 _)
end
structure TA(W:ay)(xb:Nat)(vn:az)(L:js)(g:Sg)(m:fv)(vb:az)(C k0:Nat)(t:aj)(r:Er)(vo:az)(i:Nat)(wr:ay):Prop where
 ok:∃(k:Nat) (vb':az) (o:aj),XO W xb vn L g m vb k vb' 0 vo o wr/\b_ (nR L) (jQ g) m k o (t.drop i) r/\k0<=k/\k<=300/\o.length<=C*i
 le:i<=t.length
def TB(W:ay)(e:Nat)(c:az)(L:js)(g:Sg)(m:fv)(f:az)(d:Nat)(b:aj)(a:Er)(h:az)(wr:ay):Prop:=a.er≠0/\∃(k:Nat) (vb':az) (o:aj),XO W e c L g m f k vb' a.er h o wr/\o.length<=d*(b.length+fE L m)
def wL{S:aA}(h:w.ownsRow B 5 1 ve (o.length+S.size) (o.map jZ++Lib.strCells S)):dX w B ve (o++S.data.toList):=by unfold dX;rw[X4,Yy,<-YJ];exact h
def Xo(f:Nat)(h:az)(L:js)(g:Sg)(d a:Nat)(m:fv):Prop:=∀(k:Nat),a<=k->k<=300->∀(W:ay) (i:az) (c:aj),XM W f h L g k i m 0->
 ∃q,rJ (nR L) (jQ g) m k c q/\(q.er=0->q.bK.length<=2000/\k<=q.bC/\q.bC<=300)/\Calls prog 155 #[.pointer (some ⟨f,0,none⟩),.string ⟨c.toArray⟩] W λe b=>D2 f h L g m (d*fE L m+2000) q i W e b
def Dh(p a:Nat)(h:a=p+1)(b:p<=4611686018427387904):wrap64 ((p:Int)+1)=(a:Int):=by subst h;unfold wrap64;omega
def JL(h:o.length+c.length<=140000000000000):o.length+(⟨c.toArray⟩:aA).size<=maxLen/\o.length+(⟨c.toArray⟩:aA).size<=140737488355328:=by
 have e:(⟨c.toArray⟩:aA).size=c.length:=by simp[ByteArray.size]
 rw[e];unfold maxLen;omega
def Sy{N:aj->Nv}{b:UInt8->jj}{d:Er}(h:b_ N b m k o [] d):d=ic o k:=by
 have e:=b_.pc (N:=N) (sg:=b) (m:=m) (k:=k) (a:=o) (t:=[]) rfl;have f:dt o (Mk.bo 36 [])=o:=by unfold dt;split<;>simp[Mk.bo]
 rw[f]at e;exact h.mx e
def P'(a_:Xo xb vn L g d i m)(bR:1000<=d)(bM:g.jH.length<=2*d)(bE:g.first.length<=2*d)(bz:g.all.length<=2*d)(bL:g.stem.length<=2*d)(bG:i<=300):Dl xb vn L g d i m:=by
 intro W vb a0 z hX hE hB bB;obtain⟨S,rfl⟩:∃S:aA,a0=S.data.toList:=⟨⟨a0.toArray⟩,by simp⟩;have hS:(⟨S.data.toList.toArray⟩:aA)=S:=(ij (t:=S) rfl).symm;rw[hS];have aN:=YJ S;rw[<-aN]at bB;obtain⟨i0,bk,a9,bp,bd⟩:=Y1 Tryz.Jn;have V:=aC bk;have aa:=aC a9;have ab:=aC bp;have Q:=aC bd;have HB:=aC hB;have G:=aC aN;have bh:Hid (TA W xb vn L g m vb d i S.data.toList z (ς) 0 W):=⟨⟨i,vb,[],XO.bq hX,hE,X0 _,bG,Yh _⟩,Yh _⟩;clear bk a9 bp bd hB hX hE hS aN;go_enter func116,ntmps116;go_wp2_with fail
 go_loopw [5,6] (λvo iv wr=>∃j:Nat,iv=.int .i64 (j:Int)/\j<=S.size+1/\(Hid (TA W xb vn L g m vb d i S.data.toList z vo j wr)\/Hid (TB W xb vn L g m vb d S.data.toList z vo wr))) (λ_ iv _=>S.size+1-aV iv)
 case atStart=>exact⟨0,rfl,Yh _,.inl bh⟩
 clear bh;obtain⟨j,rfl,hi,bO⟩:=hrel;rename_i wr;rcases bO with HA|HT
 ·obtain⟨⟨k,B,o,F,hx,aL,aD,aQ⟩,bI⟩:=HA.u;rw[<-G.u]at bI;clear HA;obtain⟨vs,vc,aU⟩:=dR F.o;subst aU;obtain⟨-,-,-,c8,fz⟩:=F.x.cells;have f8:=fz 8;have c1:=F.x.row.cell 1 (by simp);have c2:=F.x.row.cell 2 (by simp);have c3:=F.x.row.cell 3 (by simp);have c4:=F.x.row.cell 4 (by simp);have c5:=F.x.row.cell 5 (by simp);simp only[X6,X7]at c1 c2 c3 c4 c5;unfold aK at c2 c3 c4 c5;have s:=aC F;clear F fz;have bX:o.length<=140000000000000:=by have I:d*j<=d*(S.data.toList.length+fE L m):=E2 _ (by rw[<-G.u];omega);have:=HB.u;omega
  by_cases K:j<S.size
  ·have bo:j<S.data.toList.length:=by rw[<-G.u];exact K
   have ax:S.data.toList.drop j=(S[j]'K)::S.data.toList.drop (j+1):=Yu bo;have T:=aC ax;clear ax bo;have t1:(j:Int)<S.size:=by omega
   have a7:Hid (d*j+d<=d*(j+1)):=aC (by rw[Nat.mul_succ];exact X0 _);by_cases J:(S[j]'K)=36
   ·have q0:(((S[j]'K).toNat:Int))=36:=by rw[J];rfl
    have af:=hx;rw[T.u,J]at af;have al:Hid (z.er=1->TB W xb vn L g m vb d S.data.toList z (.slice vs o.length vc) (wr.ψ xb 8 (ι 1))):=aC (λe=>by
     refine⟨by rw[e];decide,k,B,o,?_,?_⟩
     ·rw[e];exact s.u.cH 1
     have I:d*j<=d*(S.data.toList.length+fE L m):=E2 _ (by rw[<-G.u];omega);omega)
    clear J T;by_cases r:j+1<S.size
    ·have ax:S.data.toList.drop (j+1)=(S[j+1]'r)::S.data.toList.drop (j+2):=Yu (by rw[<-G.u];exact r);have T:=aC ax;have t3:(j:Int)+1<(S.size:Int):=by omega
     have ae:Hid (d*j+2*d<=d*(j+2)):=aC (by rw[af2,Nat.mul_comm d 2];exact X0 _);have bl:∀c:UInt8,(S[j+1]'r)=c->c≠36->c≠40->jQ g c=none->z.er=1:=λc J I M E=>by have hd:=af;rw[T.u,J]at hd;rw[hd.mx ((b_.pa (r:=z) (lG).1 (by rw[(lG).2.2]) I M).1 E)]
     have aG:=aC bl;clear bl ax;rcases(show (S[j+1]'r)=36\/(S[j+1]'r)=40\/((S[j+1]'r)≠36/\(S[j+1]'r)≠40) by by_cases a1:(S[j+1]'r)=36<;>by_cases a2:(S[j+1]'r)=40<;>simp[a1,a2]) with hc2|hc2|⟨hn36,hn40⟩
     ·have U:(((S[j+1]'r).toNat:Int))=36:=by rw[hc2];rfl
      have N:Hid (∀w v,v.ownsRow W.heap.size 5 1 w (o.length+1) (o.map jZ++[jZ 36])->(wr.alloc (.cells #[jZ 36] 5)).grownBy v (Value.slice vs o.length vc).ownBlock->TA W xb vn L g m vb d i S.data.toList z w (j+2) v):=aC (λw v I M=>by
       refine⟨⟨k,B,o++[36],s.u.push (ak wr _) M (by simpa [dX] using I),?_,aL,aD,?_⟩,by rw[<-G.u];omega⟩
       ·have E:=af;rw[T.u,hc2]at E;refine E.step λq t=>b_.y9 (lG).1 (by rw[(lG).2.2]) ?_;rw[(lG).2.1];refine t.aE (jG.symm ?_);have h4:dt o []=o:=by unfold dt;split<;>simp
        rw[h4];exact jG.cU _ _
       rw[X4,Yx];have:=ae.u;omega)
      clear hc2 aG;go_wp2_with (at_builtin;refine YX _ rfl (.tmp 49) (.tmp 50) 126 rfl W.heap.size 5 i0 (.int .u8 0) 1 1 YI V.u aa.u ab.u Q.u rfl (by decide) _ o.length _ rfl (Yz s.u.o _) (η _ 0) 1 1 [jZ 36] rfl rfl (qq wr) (λu hu=>by rw[Yc.1 hu];rfl) (by unfold maxLen;omega) (by omega) (by rw[X_];have:=s.u.f.bS.size;omega) ?_;intro w v C A H;have ad:=N.u w v C A;clear C A H)
      go_roundw
      case rel=>exact⟨j+2,by go_num,by omega,.inl ad⟩
      simp only[aV];omega
     ·have U:(((S[j+1]'r).toNat:Int))=40:=by rw[hc2];rfl
      have af:=af;rw[T.u,hc2]at af;clear hc2 aG T a7;have bc:Hid (∀x∈(S.data.toList.drop (j+2)).take 0,x≠41):=aC (λx hx=>by simp at hx);have bj:d*j+2000<=d*(S.data.toList.length):=by have I:d*(j+2)<=d*S.data.toList.length:=E2 _ (by rw[<-G.u];omega);have:=ae.u;omega
      have aF:=aC bj;clear bj;go_wp2_with fail
      go_loopw [8] (λkv w9=>∃n:Nat,kv=.int .i64 ((j+2+n:Nat):Int)/\j+2+n<=S.size/\Hid (∀x∈(S.data.toList.drop (j+2)).take n,x≠41)/\w9=wr) (λkv _=>S.size+1-aV kv)
      case atStart=>exact⟨0,by go_num,by omega,bc,rfl⟩
      clear bc;obtain⟨n,rfl,hn,HQ,bA⟩:=hrel;subst bA;have ag:(S.data.toList.drop (j+2)).length=S.size-(j+2):=by rw[Zu,<-G.u]
      have ai:(S.extract (j+2) (j+2+n)).data.toList=(S.data.toList.drop (j+2)).take n:=by rw[ue,ac2];simp
      by_cases hj:j+2+n<S.size
      ·have aH:(S.data.toList.drop (j+2))[n]'(by rw[ag];omega)=(S[j+2+n]'hj):=by rw[List.getElem_drop];rfl
       have t6:(j:Int)+2+(n:Int)<S.size:=by omega
       by_cases am:(S[j+2+n]'hj)=41
       ·have q2:(((S[j+2+n]'hj).toNat:Int))=41:=by rw[am];rfl
        obtain⟨f1,f2,f3⟩:=(Hq (l:=S.data.toList.drop (j+2)) HQ.u).2 (by rw[ag];omega) (by rw[aH];exact am);have aO:=aC f1;have aw:=aC f2;have aY:=aC f3;clear f1 f2 f3 aH am ag;have t7:((j:Int)+2+(n:Int)==S.size)=false:=by rw[Yi];omega
        cases y:eT ((S.data.toList.drop (j+2)).take n) with
        |false=>
         have ar:Hid (eT (S.extract (j+2) (j+2+n)).data.toList=false):=aC (by rw[ai];exact y);have aM:Hid (z=⟨[],1,k⟩):=aC (af.mx (b_.im (lG).1 (by rw[(lG).2.2]) (.inr (by rw[aw.u];exact y))));have HE:=s.u.cH 1;clear y ai HQ aO aw aY al aF ae HB V aa ab Q;go_upto_region 26 with fail
         obtain⟨p,hp⟩:∃p:Nat,p=j+1:=⟨_,rfl⟩;obtain⟨a,ha⟩:∃a:Nat,a=j+2:=⟨_,rfl⟩;obtain⟨b,y⟩:∃b:Nat,b=j+2+n:=⟨_,rfl⟩;have P:(j:Int)+2+(n:Int)=b:=by omega
         have e2:(j:Int)+1=(p:Int):=by omega
         have e4:(a:Int)<=b:=by omega
         have e5:(b:Int)<=S.size:=by omega
         have ao:Hid ((S.extract a b).size<=4294967296):=aC (by simp only[N9];omega);have e7:((b:Int)==S.size)=false:=by rw[<-P];exact t7
         rw[P,e2];have e3:=Dh p a (by omega) (by omega);rw[<-y,<-ha]at ar;clear P e2 hp ha y t6 t3 t1 t7;go_wp2_with (go_at_call 154;refine(sI ao.u).mono ?_;rintro e w5⟨rfl,rfl⟩;rw[ar.u])
         go_ret;rw[aM.u];exact⟨[],B,k,rfl,HE.x,λe=>(by cases e),HE.f,Yh _⟩
        |true=>
         obtain⟨q,t,bg,aP⟩:=a_ k aL aD wr B ((S.data.toList.drop (j+2)).take n) s.u.x;have bs:S.extract (j+2) (j+2+n)=⟨((S.data.toList.drop (j+2)).take n).toArray⟩:=by rw[ue,ac2];simp
         rw[<-bs]at aP;have ar:Hid (eT (S.extract (j+2) (j+2+n)).data.toList=true):=aC (by rw[ai];exact y);have aW:=(b_.qR (a:=o) (r:=q) (lG).1 (by rw[(lG).2.2]) aO.u (by rw[aw.u];exact y) (by rw[aw.u];exact t));have bt:=aC bg;have a6:Hid (∀u:aj,u.length<=d*fE L m+2000->o.length+u.length<=d*(S.data.toList.length+fE L m)):=aC (λu hu=>by have I:=aF.u;rw[af2];omega);have bv:Hid (∀u Z k2 w w7,XO W xb vn L g m vb k2 Z q.er w (o++u) w7->(q.er=0->u=q.bK/\k2=q.bC)->u.length<=d*fE L m+2000->TA W xb vn L g m vb d i S.data.toList z w (j+2+n+1) w7\/TB W xb vn L g m vb d S.data.toList z w w7):=aC (λu Z k2 w w7 aR aI au=>by
          by_cases h0:q.er=0
          ·obtain⟨rfl,rfl⟩:=aI h0;obtain⟨z1,z2,z3⟩:=bt.u h0;rw[h0]at aR;refine .inl ⟨⟨q.bC,Z,o++q.bK,aR,?_,by omega,z3,?_⟩,by rw[<-G.u];omega⟩
           ·have E:=af.step (aW.2 h0);rw[aY.u,(lG).2.1,z6]at E;have h4:dt o []=o:=by unfold dt;split<;>simp
            rw[h4]at E;exact E.aE (jG.cU _ _)
           rw[X4];have h5:d*(j+2)<=d*(j+2+n+1):=E2 _ (by omega);have:=ae.u;omega
          have E:=af.mx (aW.1 h0);refine .inr ⟨by rw[E];exact h0,k2,Z,o++u,by rw[E];exact aR,?_⟩;rw[X4];exact a6.u u au)
         clear y ai HQ aO aw aY al aF ae t bg bs aW bt;go_upto_region 26 with fail
         obtain⟨p,hp⟩:∃p:Nat,p=j+1:=⟨_,rfl⟩;obtain⟨a,ha⟩:∃a:Nat,a=j+2:=⟨_,rfl⟩;obtain⟨b,y⟩:∃b:Nat,b=j+2+n:=⟨_,rfl⟩;have P:(j:Int)+2+(n:Int)=b:=by omega
         have e2:(j:Int)+1=(p:Int):=by omega
         have e4:(a:Int)<=b:=by omega
         have e5:(b:Int)<=S.size:=by omega
         have ao:Hid ((S.extract a b).size<=4294967296):=aC (by simp only[N9];omega);have e7:((b:Int)==S.size)=false:=by rw[<-P];exact t7
         have be:Hid (b=j+2+n):=y;rw[P,e2];rw[<-y,<-ha]at ar aP;rw[<-y]at bv;have e3:=Dh p a (by omega) (by omega);clear P e2 hp ha y t6 t3 t1 t7;go_wp2_with (first|(go_at_call 154;refine(sI ao.u).mono ?_;rintro e w5⟨rfl,rfl⟩;rw[ar.u])|(go_at_call 155;refine aP.mono ?_;rintro e w6⟨u,Z,k2,rfl,a5,aI,ba,au⟩;have aT:=s.u.qR a5 ba;have bF:=aC aI;have bJ:=aC au;have bn:=aC (Ye (a6.u u au) HB.u);clear a5 aI ba au)|(at_builtin;refine L3 _ rfl (.tmp 161) (.tmp 162) 126 9 rfl W.heap.size 5 i0 YI Yj V.u aa.u ab.u Q.u _ o.length _ rfl aT.o ⟨u.toArray⟩ rfl (JL bn.u).1 (JL bn.u).2 aT.f.bS.size ?_;intro w w7 C A H;have bD:=bv.u u Z k2 w w7 (aT.push (X5 _ _) A (by simpa using wL C)) bF.u bJ.u;clear C A H))
         clear e3 e7;go_roundw
         case rel=>exact⟨b+1,by go_num,by have:=be.u;omega,bD⟩
         simp only[aV];have:=be.u;omega
       have t8:((((S[j+2+n]'hj).toNat:Int)) !=41)=true:=by
        rw[ZI];intro e;exact am (p7.1 (by simpa using G4 e))
       have bQ:Hid (∀x∈(S.data.toList.drop (j+2)).take (n+1),x≠41):=aC (by
        intro x hx;rw[Yn (by rw[ag];omega)]at hx;rcases Yv.1 hx with h|h
        ·exact HQ.u x h
        rw[Yc.1 h,aH];exact am)
       clear aH am ag ai HQ;go_wp2_with fail
       go_roundw
       case rel=>exact⟨n+1,by go_num,by omega,bQ,trivial⟩
       simp only[aV];omega
      have aM:Hid (z=⟨[],1,k⟩):=aC (af.mx (b_.im (lG).1 (by rw[(lG).2.2]) (.inl ((Hq (l:=S.data.toList.drop (j+2)) HQ.u).1 (by rw[ag];omega)))));have HE:=s.u.cH 1;have t6:¬(j:Int)+2+(n:Int)<S.size:=by omega
      clear ai ag HQ al aF ae V aa ab Q;go_upto_region 26 with fail
      obtain⟨p,hp⟩:∃p:Nat,p=j+1:=⟨_,rfl⟩;obtain⟨a,ha⟩:∃a:Nat,a=j+2:=⟨_,rfl⟩;obtain⟨b,y⟩:∃b:Nat,b=j+2+n:=⟨_,rfl⟩;have P:(j:Int)+2+(n:Int)=b:=by omega
      have e2:(j:Int)+1=(p:Int):=by omega
      have e4:(a:Int)<=b:=by omega
      have e5:(b:Int)<=S.size:=by omega
      have ao:Hid ((S.extract a b).size<=4294967296):=aC (by simp only[N9];omega);have bN:Hid (((b:Int)==S.size)=true):=aC (by rw[Zj];omega);have bw:((j+2+n:Nat):Int)=(b:Int):=by omega
      rw[bw,e2];clear bw;have e3:=Dh p a (by omega) (by omega);have e7:=bN.u;clear P e2 hp ha y t6 t3 t1 HB;go_wp2_with (go_at_call 154;refine(sI ao.u).mono ?_;rintro e w5⟨rfl,rfl⟩;generalize eT (S.extract a b).data.toList=bb)
      all_goals go_ret
      all_goals rw[aM.u]
      all_goals exact⟨[],B,k,rfl,HE.x,λe=>(by cases e),HE.f,Yh _⟩
     have a':(S[j+1]'r)=64\/(S[j+1]'r)=60\/(S[j+1]'r)=94\/(S[j+1]'r)=42\/((S[j+1]'r)≠64/\(S[j+1]'r)≠60/\(S[j+1]'r)≠94/\(S[j+1]'r)≠42):=by
      by_cases a1:(S[j+1]'r)=64
      ·exact .inl a1
      by_cases a2:(S[j+1]'r)=60
      ·exact .inr (.inl a2)
      by_cases a3:(S[j+1]'r)=94
      ·exact .inr (.inr (.inl a3))
      by_cases a4:(S[j+1]'r)=42
      ·exact .inr (.inr (.inr (.inl a4)))
      exact .inr (.inr (.inr (.inr ⟨a1,a2,a3,a4⟩)))
     have N:Hid (∀p w v,jQ g (S[j+1]'r)=some p->p.length<=2*d->dX v W.heap.size w (o++p)->wr.grownBy v (Value.slice vs o.length vc).ownBlock->TA W xb vn L g m vb d i S.data.toList z w (j+2) v):=aC (λp w v h0 hp I M=>by
      refine⟨⟨k,B,o++p,s.u.push (X5 _ wr) M I,?_,aL,aD,?_⟩,by rw[<-G.u];omega⟩
      ·have E:=af;rw[T.u]at E;refine E.step λq t=>(b_.pa (r:=q) (lG).1 (by rw[(lG).2.2]) hn36 hn40).2 p h0 ?_;rw[(lG).2.1];refine t.aE (jG.symm ?_);have h4:dt o []=o:=by unfold dt;split<;>simp
       rw[h4];exact jG.cU _ _
      rw[X4];have:=ae.u;omega)
     have aJ:=aC (aG.u _ rfl hn36 hn40);have bU:o.length+2*d<=140000000000000:=by have I:d*(j+2)<=d*(S.data.toList.length+fE L m):=E2 _ (by rw[<-G.u];omega);have:=HB.u;have:=ae.u;omega
     have y:∀c:UInt8,(S[j+1]'r)≠c->((((S[j+1]'r).toNat:Int))==(c.toNat:Int))=false:=λc J=>by rw[Yi];intro e;exact J (p7.1 (G4 e))
     have bV:((((S[j+1]'r).toNat:Int))==36)=false:=y 36 hn36;have bT:((((S[j+1]'r).toNat:Int))==40)=false:=y 40 hn40;have O:=aC y;clear hn36 hn40 aG y;cases ac:g.on with
     |true=>
      rw[ac]at c1;rcases a' with t|t|t|t|⟨Y,X,D,R⟩
      case' inl=>have U:(((S[j+1]'r).toNat:Int))=64:=by rw[t];rfl
      case' inr.inl=>have U:(((S[j+1]'r).toNat:Int))=60:=by rw[t];rfl
      case' inr.inr.inl=>have U:(((S[j+1]'r).toNat:Int))=94:=by rw[t];rfl
      case' inr.inr.inr.inl=>have U:(((S[j+1]'r).toNat:Int))=42:=by rw[t];rfl
      case' inr.inr.inr.inr=>have b1:((((S[j+1]'r).toNat:Int))==64)=false:=O.u 64 Y;have b2:((((S[j+1]'r).toNat:Int))==60)=false:=O.u 60 X;have b3:((((S[j+1]'r).toNat:Int))==94)=false:=O.u 94 D;have b4:((((S[j+1]'r).toNat:Int))==42)=false:=O.u 42 R;have av:=aC (aJ.u (by unfold jQ;rw[ac,Yb (by decide),Yb Y,Yb X,Yb D,Yb R]));clear Y X D R N
      all_goals clear O aJ
      all_goals go_wp2_with (first|(at_builtin;(refine L3 _ rfl (.tmp 62) (.tmp 67) 126 9 rfl W.heap.size 5 i0 YI Yj V.u aa.u ab.u Q.u _ o.length _ rfl s.u.o ⟨g.jH.toArray⟩ rfl (by unfold maxLen;simp only[ByteArray.size,ZM];omega) (by simp only[ByteArray.size,ZM];omega) (by have:=s.u.f.bS.size;omega) ?_;intro w v C A H;have ad:=N.u g.jH w v (by unfold jQ;rw[ac,t];rfl) bM (by simpa using wL C) A;clear C A H))|(at_builtin;refine L3 _ rfl (.tmp 79) (.tmp 84) 126 9 rfl W.heap.size 5 i0 YI Yj V.u aa.u ab.u Q.u _ o.length _ rfl s.u.o ⟨g.first.toArray⟩ rfl (by unfold maxLen;simp only[ByteArray.size,ZM];omega) (by simp only[ByteArray.size,ZM];omega) (by have:=s.u.f.bS.size;omega) ?_;intro w v C A H;have ad:=N.u g.first w v (by unfold jQ;rw[ac,t];rfl) bE (by simpa using wL C) A;clear C A H)|(at_builtin;refine L3 _ rfl (.tmp 96) (.tmp 101) 126 9 rfl W.heap.size 5 i0 YI Yj V.u aa.u ab.u Q.u _ o.length _ rfl s.u.o ⟨g.all.toArray⟩ rfl (by unfold maxLen;simp only[ByteArray.size,ZM];omega) (by simp only[ByteArray.size,ZM];omega) (by have:=s.u.f.bS.size;omega) ?_;intro w v C A H;have ad:=N.u g.all w v (by unfold jQ;rw[ac,t];rfl) bz (by simpa using wL C) A;clear C A H)|(at_builtin;refine L3 _ rfl (.tmp 113) (.tmp 118) 126 9 rfl W.heap.size 5 i0 YI Yj V.u aa.u ab.u Q.u _ o.length _ rfl s.u.o ⟨g.stem.toArray⟩ rfl (by unfold maxLen;simp only[ByteArray.size,ZM];omega) (by simp only[ByteArray.size,ZM];omega) (by have:=s.u.f.bS.size;omega) ?_;intro w v C A H;have ad:=N.u g.stem w v (by unfold jQ;rw[ac,t];rfl) bL (by simpa using wL C) A;clear C A H))
      all_goals go_roundw
      all_goals first
       |exact⟨j+2,by go_num,by omega,.inl ad⟩
       |exact⟨j+2,by go_num,by omega,.inr (al.u av.u)⟩
       |(simp only[aV];omega)
     |false=>
      rw[ac]at c1;have av:=aC (aJ.u (by unfold jQ;rw[ac,Yd rfl]));rcases a' with t|t|t|t|⟨Y,X,D,R⟩
      case' inl=>have U:(((S[j+1]'r).toNat:Int))=64:=by rw[t];rfl
      case' inr.inl=>have U:(((S[j+1]'r).toNat:Int))=60:=by rw[t];rfl
      case' inr.inr.inl=>have U:(((S[j+1]'r).toNat:Int))=94:=by rw[t];rfl
      case' inr.inr.inr.inl=>have U:(((S[j+1]'r).toNat:Int))=42:=by rw[t];rfl
      case' inr.inr.inr.inr=>have b1:((((S[j+1]'r).toNat:Int))==64)=false:=O.u 64 Y;have b2:((((S[j+1]'r).toNat:Int))==60)=false:=O.u 60 X;have b3:((((S[j+1]'r).toNat:Int))==94)=false:=O.u 94 D;have b4:((((S[j+1]'r).toNat:Int))==42)=false:=O.u 42 R;clear Y X D R
      all_goals clear O aJ N
      all_goals go_wp2_with fail
      all_goals go_roundw
      all_goals first
       |exact⟨j+2,by go_num,by omega,.inr (al.u av.u)⟩
       |(simp only[aV];omega)
    have t3:¬(j:Int)+1<(S.size:Int):=by omega
    have av:Hid (z.er=1):=aC (by have hd:=af;rw[afo (by rw[<-G.u];omega)]at hd;rw[hd.mx (b_.nil (lG).1 (by rw[(lG).2.2]))]);go_wp2_with fail
    go_roundw
    case rel=>exact⟨j+2,by go_num,by omega,.inr (al.u av.u)⟩
    simp only[aV];omega
   have t2:(((S[j]'K).toNat:Int) !=36)=true:=by
    rw[ZI];intro e;exact J (p7.1 (by simpa using G4 e))
   have N:Hid (∀w v,v.ownsRow W.heap.size 5 1 w (o.length+1) (o.map jZ++[jZ (S[j]'K)])->(wr.alloc (.cells #[jZ (S[j]'K)] 5)).grownBy v (Value.slice vs o.length vc).ownBlock->TA W xb vn L g m vb d i S.data.toList z w (j+1) v):=aC (λw v I M=>by
    refine⟨⟨k,B,o++[S[j]'K],s.u.push (ak wr _) M (by simpa [dX] using I),?_,aL,aD,?_⟩,by rw[<-G.u];omega⟩
    ·have E:=hx;rw[T.u]at E;exact E.step λq t=>t.xz J
    rw[X4,Yx];have:=a7.u;omega)
   clear J;go_wp2_with (at_builtin;refine YX _ rfl (.tmp 28) (.tmp 32) 126 rfl W.heap.size 5 i0 (.int .u8 0) 1 1 YI V.u aa.u ab.u Q.u rfl (by decide) _ o.length _ rfl (Yz s.u.o _) (η _ 0) 1 1 [jZ (S[j]'K)] rfl rfl (qq wr) (λu hu=>by rw[Yc.1 hu];rfl) (by unfold maxLen;omega) (by omega) (by rw[X_];have:=s.u.f.bS.size;omega) ?_;intro w v C A H;have ad:=N.u w v C A;clear C A H)
   go_roundw
   case rel=>exact⟨j+1,by go_num,by omega,.inl ad⟩
   simp only[aV];omega
  have aB:=hx;rw[afo (by rw[<-G.u];omega)]at aB;have hr:=Sy aB;have t1:¬(j:Int)<S.size:=by omega
  have bH:=s.u.o.conv;have HU:Hid (o.length<=d*(S.data.toList.length+fE L m)):=aC (by have I:d*j<=d*(S.data.toList.length+fE L m):=E2 _ (by rw[<-G.u];omega);omega);by_cases M:2000<o.length
  ·have aq:z=⟨[],5,k⟩:=by rw[hr];unfold ic;rw[Yd M]
   have HE:=s.u.cH 5;have bW:(convert 126 9 (.slice vs o.length vc)).run prog (wr.ψ xb 8 (ι 5))=.ok (σ o) (wr.ψ xb 8 (ι 5)):=(s.u.cH 5).o.conv;have t2:(2000:Int)<o.length:=by omega
   have aX:=aC aq;clear hr aB aq;go_wp2_with fail
   go_ret;rw[aX.u];exact⟨o,B,k,rfl,HE.x,λe=>(by cases e),HE.f,HU.u⟩
  have aq:z=⟨o,0,k⟩:=by rw[hr];unfold ic;rw[Yb M]
  have t2:¬(2000:Int)<o.length:=by omega
  have aX:=aC aq;clear hr aB aq;go_wp2_with fail
  go_ret;rw[aX.u];exact⟨o,B,k,rfl,s.u.x,λ_=>⟨rfl,rfl⟩,s.u.f,HU.u⟩
 obtain⟨aS,k,B,o,F,aQ⟩:=HT.u;obtain⟨vs,vc,aU⟩:=dR F.o;subst aU;obtain⟨-,-,-,c8,-⟩:=F.x.cells;have bH:=F.o.conv;have t1:((z.er:Int)==0)=false:=by rw[Yi];omega
 have s:=aC F;clear F HT;by_cases K:(j:Int)<S.size
 ·go_wp2_with fail
  go_ret;exact⟨o,B,k,rfl,s.u.x,λe=>absurd e aS,s.u.f,aQ⟩
 go_wp2_with fail
 go_ret;exact⟨o,B,k,rfl,s.u.x,λe=>absurd e aS,s.u.f,aQ⟩
end


