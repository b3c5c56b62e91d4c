/- . -/
import Derived.Test.YtjelacjggijmfaaGreatDoorYEF7
namespace Go.Proofs.YtjelacjggijmfaaGreatDoor
open Pl Mk Cp Proofs.Tryz
open RowKit
def jJ (X:Wd)(W:ax)(d:Option Addr)(a:Nat)(b:Option Addr)(c:Nat):Prop:=∃B,gj W B (.slice d X.aH.length a) X.aH/\fR W B (.slice b (eX X.aX).length c) (eX X.aX)
variable {b i l j:Option Addr}{f c m k:Nat}
theorem jJ.aE {X:Wd}{W Z:ax}(h:jJ X W b f i c)(a:Below W.heap.size W Z):jJ X Z b f i c:=by obtain⟨B,e,d⟩:=h;exact⟨B,e.aE a,d.aE a⟩
variable {a:ax}
theorem jJ.Tk {X:Wd}{W:ax}{e:Ending}(h:A' X W e a):∃c f d b,e= .returned (.agg #[.slice c X.aH.length f,.slice d (eX X.aX).length b,.int .i64 X.exit,.int .i64 X.aP])/\jJ X a c f d b/\Below W.heap.size W a :=by obtain⟨k,l,n,j,i,g⟩:=h;obtain⟨c,f,rfl⟩:=i.shape;obtain⟨d,b,m,rfl,-⟩:=g.rd;exact⟨c,f,d,b,j,⟨_,i,g⟩,k⟩
variable {g:ag}{d e:List aI}
theorem jJ.IM {p:List bL}{m:Int}{W:ax}{e:Ending}(h:zN g d p m W e a){n:List ag}{c:ag}(t:Pl.load g=some (n,c))(r:kK g){X:Wd}(u:jC c n p (gQ d m)=X):∃i b j f,e= .returned (.tuple #[.agg #[.slice i X.aH.length b,.slice j (eX X.aX).length f,.int .i64 X.exit,.int .i64 X.aP],.int .i64 0])/\jJ X a i b j f/\Below W.heap.size W a :=by
 obtain⟨s,h⟩:=h;rcases h with⟨h,-⟩|⟨x,y,w,v,q,-,o,l,k⟩
 ·exact absurd r h
 ·rw[t] at q;cases q;rw[u] at o l k;obtain⟨i,b,rfl⟩:=l.shape;obtain⟨j,f,z,rfl,-⟩:=k.rd;exact⟨i,b,j,f,o,⟨_,l,k⟩,s⟩
theorem jJ.Iq {X:Wd}(p:X.aH.length<=8388608)(J:(eX X.aX).length<=8388608){W:ax}(h:jJ X W b f i c)(z :jJ X W l m j k):
 Calls prog 19 #[.agg #[.slice b X.aH.length f,.slice i (eX X.aX).length c,.int .i64 X.exit,.int .i64 X.aP],.agg #[.slice l X.aH.length m,.slice j (eX X.aX).length k,.int .i64 X.exit,.int .i64 X.aP]] W λe H=>e= .returned (.bool true)/\Below W.heap.size W H :=by obtain⟨B,I,o⟩:=h;obtain⟨M,y,r⟩:=z;obtain⟨_,_,u,L,d,v⟩:=I.x8;obtain⟨_,_,C,x,D,g,A⟩:=o.rd;obtain⟨_,_,E,t,a,s⟩:=y.x8;obtain⟨_,_,n,G,w,F,K⟩:=r.rd;cases u;cases x;cases E;cases G;exact MY _ _ _ _ _ _ _ _ _ _ _ _ L C t n 0 0 0 0 W (λq=>(d q).1) D (λq=>(a q).1) w v g s F (λq=>(d q).2) (λq=>(A q).2.1) (λq=>(a q).2) (λq=>(K q).2.1) p J
def uY (l:List aI)(b:Bk)(c:Wk)(g:List (List ag))(W:ax)(i:Nat):Prop:=∃k f e j a,eA k W i f l b e j [e] a.length a c.aW 0 0/\a.map (·.x)=c.aQ.map (·.1)/\∀d (h:d<c.aW.length),(a.getD c.aW[d] iA).cs=g.getD d []
theorem uY.aE {b:Bk}{c:Wk}{a:List (List ag)}{W Z:ax}{wb:Nat}(h:uY d b c a W wb)(m:Below W.heap.size W Z):uY d b c a Z wb:=by obtain⟨l,e,f,n,g,k,j,i⟩:=h;exact⟨l,e,f,n,g,k.aE m,j,i⟩
theorem CR.fst {W:ax}{N:Nat}{b:TypeId}(h:CR W N b (d++e)):dA W N 0 d:=λc a=>by have:=h.rd c (by rw[TE];omega);rwa [Vy a] at this
theorem EJ (W:ax)(b:Nat)(d:dA W b 0 dI)(h:b<W.heap.size):Calls prog 12 #[.slice (some ⟨b,0,none⟩) 3 3] W λe a=>e= .returned (.slice (some ⟨W.heap.size,0,none⟩) 3 11)/\dA a W.heap.size 0 dI/\W.heap.size<a.heap.size/\Below W.heap.size W a :=(yL dI (some ⟨b,0,none⟩) 3 b 0 W (λ_=>rfl) d h (by decide)).mono λ_ _ ⟨g,c,f⟩=>⟨g,CR.fst c,aG.lt c,f⟩
theorem Cg (f:fB kY=some g)(W:ax)(b:Nat)(i:c_ W)(h:dA W b 0 dI)(k:b<W.heap.size):Calls prog 11 #[.slice (some ⟨b,0,none⟩) 3 11,.string ⟨#[82]⟩,.string ⟨#[]⟩] W λe a=>e= .returned (.tuple #[.string ⟨g.toArray⟩,.int .i64 0,.int .i64 0])/\Below W.heap.size W a :=by refine(ym (AN (fs0:=dI) (by decide) [82] []) (some ⟨b,0,none⟩) 11 b 0 W (λ_=>rfl) h k i).mono ?_;rintro e a ⟨m,c,rfl,j⟩;rw[OB] at c;obtain⟨l,d,rfl⟩:=N8 c;rw[f] at d;cases d;exact⟨rfl,j⟩
theorem Cn (o:fB kY=some g)(p:g.length<=8388608)(W:ax)(b:Nat)(r:dA W b 0 dI)(v:b<W.heap.size):Calls prog 14 #[.string ⟨g.toArray⟩,.slice (some ⟨b,0,none⟩) 3 3,.slice none 0 0,.int .i64 10] W λe a=>∃l d j A i w y,e= .returned (.tuple #[.agg #[.slice (some ⟨d,0,none⟩) 2 l,.slice j A i,.int .i64 w,.int .i64 y],.int .i64 0])/\a.cell? ⟨d,0,none⟩=some (.string ⟨#[99,99,32,45,111,32,97,46,111,32,97,46,99]⟩)/\a.cell? ⟨d,1,none⟩=some (.string ⟨#[109,107,32,98]⟩)/\d<a.heap.size/\Below W.heap.size W a :=by obtain⟨F,c,D,m,s⟩:=P1 o;refine(Dc g p m dI [] (some ⟨b,0,none⟩) none 3 b 0 0 W.heap.size 0 0 10 W (λ_=>rfl) r v (by decide) (λh=>absurd h (by decide)) ⟨by omega,λG E=>absurd E (by simp)⟩ ak (by decide) (λe h=>(by cases h)) (dI.map (·.aJ)) (by decide) (λf x=>Uc.2 ⟨f,x,rfl⟩) (λe h=>(by cases h))).mono ?_;intro e a h;obtain⟨H,l,j,i,rfl,⟨B,u,-⟩,t⟩:=jJ.IM h D m rfl;obtain⟨_,_,C,z,n,k⟩:=u.x8;cases C;rw[s] at n k⊢;obtain⟨rfl,q⟩:=n (by decide);exact⟨l,z,j,_,i,_,_,rfl,k 0 (by decide),k 1 (by decide),q,t⟩
theorem J' (i goal:ag)(p:ke d<=1048576)(E:fB kY=some g)(r:g.length<=8388608)(a A D:Option Addr)(cap k no co m ce:Nat)(z:Int)(w:ax)(C:c_ w)(x:∀W,Below w.heap.size w W->∃f,(0<d.length->a=some ⟨f,k,none⟩)/\dA W f k d/\f <W.heap.size){j:ag×Nat×Nat}(K:j.2.1≠0)(M:j.1=[])(J:∀F,g_ (d.foldl Pl.bp []) i goal F->F=j):
 Calls prog 3 #[.slice a d.length cap,.string ⟨i.toArray⟩,.string ⟨goal.toArray⟩,.slice A no co,.slice D m ce,.int .i64 z] w λe y=>e= .returned (.bool true)/\Below w.heap.size w y :=by
 have S:=wJ d;refine Kd i goal g j.2.1 j.2.2 a A D d.length cap no co m ce z w (λW N=>CR W N 65 (d++iW d.length)) (g_ (d.foldl Pl.bp []) i goal j) K ⟨#[99,99,32,45,111,32,97,46,111,32,97,46,99]⟩ ⟨#[109,107,32,98]⟩ (by rw[UQ]) (by rw[UQ]) (aB ER) (aB EJ) (aB λW b c s r=>Cg E W b (C.aE c) s r) (aB λW b s c=>Cn E r W b s c) (aB λW N X h c=>CR.aL h c (aG.lt h)) (aB λW c=> ?_) (aB λW N c h=> ?_) (aB λW P c=> ?_) (aB λW N c h=> ?_)
 ·obtain⟨f,n,l,o⟩:=x W c;exact(yL d a cap f k W n l o (by omega)).mono λ_ _ ⟨v,u,t⟩=>⟨_,v,u,t⟩
 ·refine(ym (AN p i goal) (some ⟨N,0,none⟩) _ N 0 W (λ_=>rfl) (CR.fst h) (aG.lt h) (C.aE c)).mono ?_;rintro e y ⟨L,B,rfl,H⟩;obtain rfl:=J L B;rw[M];exact⟨rfl,B,H⟩
 ·obtain⟨f,n,l,o⟩:=x W c;obtain⟨Q,T,R,U,I,rfl,rfl,-⟩:=Ej p P;refine(Ca ak (yM p) (by omega) (TT (v_ d) p) i goal a cap f k (λq=>⟨n q,o⟩) l (Ct d i) I).mono ?_;rintro e y ⟨O,rfl,v,u,t,G,-⟩;exact⟨O,rfl,v,u,t,G⟩
 ·obtain⟨f,n,l,o⟩:=x W c;exact D2 d a cap f k N W n l o (by omega) h
