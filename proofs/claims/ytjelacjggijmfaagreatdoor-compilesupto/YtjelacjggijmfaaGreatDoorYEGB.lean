/-
  Compiles: the good case, its contracts filled in.
-/
import Derived.Test.YtjelacjggijmfaaGreatDoorYEG8
namespace Go.Proofs.YtjelacjggijmfaaGreatDoor
open Go.Pl Go.Mk Go.Cp Go.Proofs.Tryz
open Go.RowKit
variable {c:Wk}{i:List (List ag)}
theorem Mg {fs:List aI}(g:ke fs<=1048576){aJ goal:ag}{j:Nat}(h:rp (eb fs aJ) fs goal 0 j c i):rK (eb fs aJ) fs c:=by
 obtain⟨k,l,-⟩:=FI (yM g) aJ;rcases h with⟨d,b,-⟩|⟨-,⟨-,b,-⟩|⟨-,-,b,-⟩|⟨-,d,f,q,b,rfl,-⟩⟩
 ·exact absurd b.symm d
 ·cases b
 ·cases b
 ·exact look_size l (TT (v_ fs) g) d b
def x_ (fs:List aI)(a:Option Addr)(o:Nat)(w:ax):Prop:=∀W,Below w.heap.size w W->∃b,(0<fs.length->a=some ⟨b,o,none⟩)/\dA W b o fs/\b <W.heap.size
def Bh (ef:List bL)(ae:Option Addr)(oe:Nat)(w:ax):Prop:=∀W,Below w.heap.size w W->∃b c,(0<ef.length->ae=some ⟨c,oe,none⟩)/\nP W b c oe ef/\b <=W.heap.size
variable {g:ag}{d:List aI}
section
variable {ef:List bL}{S:List ag}{ae:Option Addr}{ce oe:Nat}{aP:Int}{w:ax}{fs:List aI}{a:Option Addr}{cap o:Nat}
theorem Ff(hie:Bh ef ae oe w)(hel:ef.length<=8388608)(hwl:∀e∈ef,e.eO.length<=8388608)(hSl:S.length<=8388608)(hEs:∀e∈ef,∀f∈e.eO,f.aJ∈S)(hin:x_ fs a o w)(hfl:fs.length<=8388608)(hfS:∀f∈fs,f.aJ∈S)(v:g.length<=8388608){k:List ag}{c:ag}(t:Pl.load g=some (k,c))(d:kK g){X:Wd}(x:jC c k ef (gQ fs aP)=X)(W:ax)(i:Below w.heap.size w W):
 Calls prog 14 #[.string ⟨g.toArray⟩,.slice a fs.length cap,.slice ae ef.length ce,.int .i64 aP] W λe b=>∃m j n l,e= .returned (.tuple #[.agg #[.slice m X.aH.length j,.slice n (eX X.aX).length l,.int .i64 X.exit,.int .i64 X.aP],.int .i64 0])/\jJ X b m j n l/\Below W.heap.size W b :=by obtain⟨r,A,y,u⟩:=hin W i;obtain⟨q,z,s,B,p⟩:=hie W i;exact(Dc g v d fs ef a ae cap r o ce q z oe aP W A y u hfl s B p hel hwl S hSl hfS hEs).mono λe b h=>jJ.IM h t d x
theorem GI(hie:Bh ef ae oe w)(hel:ef.length<=8388608)(hwl:∀e∈ef,e.eO.length<=8388608)(hSl:S.length<=8388608)(hEs:∀e∈ef,∀f∈e.eO,f.aJ∈S)(hin:x_ fs a o w)(hfl:fs.length<=8388608)(hfS:∀f∈fs,f.aJ∈S){b:Bk}(g:nM b c i)(C:rK b d c){X:Wd}(u:mx ef c (c.aW.zip i) (λ_=>false) (gQ fs aP)=X)(W:ax)(p:Nat)(k:Below w.heap.size w W)(t:uY d b c i W p):
 Calls prog 18 #[.pointer (some ⟨p,0,none⟩),.slice a fs.length cap,.slice ae ef.length ce,.int .i64 aP] W λe j=>∃l q n m,e= .returned (.agg #[.slice l X.aH.length q,.slice n (eX X.aX).length m,.int .i64 X.exit,.int .i64 X.aP])/\jJ X j l q n m/\Below W.heap.size W j :=by obtain⟨y,D,v,G⟩:=hin W k;obtain⟨s,x,E,F,r⟩:=hie W k;obtain⟨L,H,J,K,I,B,A,z⟩:=t;subst u;exact(Rp B A z g.ll g.sc C g.Sz fs ef a ae cap y o ce s x oe aP D v G hfl E F r hel hwl S hSl hfS hEs).mono λe j h=>jJ.Tk h
end
theorem JL (aJ goal:ag){fs:List aI}(l:ke fs<=1048576)(P:d.length<=8388608)(hp:fB kY=some g)(z:g.length<=8388608)(ef:List bL)(S:List ag)(a G ae:Option Addr)(cap o co oo ce oe:Nat)(aP:Int)(w:ax)(U:c_ w)(hin:x_ fs a o w)(V:x_ d G oo w)(hie:Bh ef ae oe w)(hel:ef.length<=8388608)(hwl:∀e∈ef,e.eO.length<=8388608)(hSl:S.length<=8388608)(hfS:∀f∈fs,f.aJ∈S)(H:∀f∈d,f.aJ∈S)(hEs:∀e∈ef,∀f∈e.eO,f.aJ∈S){K:ag×Nat×Nat}(s:g_ (fs.foldl Pl.bp []) aJ goal K)(t:K.2.1=0):
 Calls prog 3 #[.slice a fs.length cap,.string ⟨aJ.toArray⟩,.string ⟨goal.toArray⟩,.slice G d.length co,.slice ae ef.length ce,.int .i64 aP] w λe I=>e= .returned (.bool true)/\Below w.heap.size w I :=by
 have hfl:=wJ fs;have v:=OE s t (Ao l aJ goal);have O:=(s.dS t).1;obtain⟨er,bW,aa,ls,M,q2,Y,q4⟩:=Ej l s;rw[t] at q2;rw[O] at Y;subst q2 Y;obtain⟨q5,C⟩:=q4 rfl;obtain⟨x,c,u,T,Q⟩:=C.SJ q5;have hW:=Mg l M;have R:=TT (FW u fs ef aP) v;have Z:=TT (FW u d ef aP) v;have L:=TT (EP S c x fs ef aP hfS hEs) hSl;have b4:=TT (EP S c x d ef aP H hEs) hSl;obtain⟨X1,k⟩:∃X,jC c x ef (gQ fs aP)=X:=⟨_,rfl⟩;obtain⟨X2,j⟩:∃X,jC c x ef (gQ d aP)=X:=⟨_,rfl⟩;have y1:=(Q ef (gQ fs aP) rfl).symm.trans k;have y2:=(Q ef (gQ d aP) rfl).symm.trans j;rw[k] at R L;rw[j] at Z b4;refine KF aJ goal g K.1 a G ae fs.length cap d.length co ef.length ce _ _ _ _ aP _ _ _ _ w (λW N=>CR W N 65 (fs++iW fs.length)) (uY fs (eb fs aJ) aa ls) (jJ X1) (jJ X2) ⟨#[99,99,32,45,111,32,97,46,111,32,97,46,99]⟩ ⟨#[109,107,32,98]⟩ (by rw[UQ]) (by rw[UQ]) (aB ER) (aB EJ) (aB λW b i B z=>Cg hp W b (U.aE i) B z) (aB λW b B i=>Cn hp z W b B i) (aB λW N X h i=>CR.aL h i (aG.lt h)) (aB λW i=> ?_) (aB λW N i h=> ?_) (aB λW i=> ?_) (aB λW N i h=> ?_) (aB λW b X h i=>h.aE i) (aB λW J y F E X h i=>h.aE i) (aB (Ff hie hel hwl hSl hEs hin (by omega) hfS v u T k)) (aB (GI hie hel hwl hSl hEs hin (by omega) hfS C hW y1)) (aB λW J y F E a3 c3 a4 c4 h A=>jJ.Iq R L h A) (aB λW J y F E X h i=>h.aE i) (aB (Ff hie hel hwl hSl hEs V P H v u T j)) (aB (GI hie hel hwl hSl hEs V P H C hW y2)) (aB λW J y F E a3 c3 a4 c4 h A=>jJ.Iq Z b4 h A)
 ·obtain⟨m,p,n,r⟩:=hin W i;exact(yL fs a cap m o W p n r (by omega)).mono λ_ _ ⟨k,j,D⟩=>⟨_,k,j,D⟩
 ·refine(ym (AN l aJ goal) (some ⟨N,0,none⟩) _ N 0 W (λ_=>rfl) (CR.fst h) (aG.lt h) (U.aE i)).mono ?_;rintro e I ⟨r',g1,rfl,g3⟩;obtain rfl:=g1.kC s;rw[t,O];exact⟨rfl,g3⟩
 ·obtain⟨m,p,n,r⟩:=hin W i;refine(Ca ak (yM l) (by omega) (TT (v_ fs) l) aJ goal a cap m o (λq=>⟨p q,r⟩) n (Ct fs aJ) M).mono ?_;rintro e I ⟨wb,rfl,k,j,D,x4,x5⟩;exact⟨wb,rfl,k,j,D,x4,x5 rfl⟩
 ·obtain⟨m,p,n,r⟩:=hin W i;exact D2 fs a cap m o N W p n r (by omega) h
theorem Nz (b:fB kY=some g):g.length<=8388608:=by
 have h:((fB kY).getD []).length<=8388608:=by decide+kernel
 rw[b] at h;exact h
theorem compiles_any (aJ goal:ag)(fs i:List aI)(D:ke fs<=1048576)(N:i.length<=8388608)(ef:List bL)(S:List ag)(a r ae:Option Addr)(cap b o co v t ce L x oe:Nat)(aP:Int)(w:ax)(n:0<fs.length->a=some ⟨b,o,none⟩/\dA w b o fs/\b<w.heap.size)(K:0<i.length->r=some ⟨v,t,none⟩/\dA w v t i/\v<w.heap.size)(I:0<ef.length->ae=some ⟨x,oe,none⟩/\nP w L x oe ef)(G:L<=w.heap.size)(hel:ef.length<=8388608)(hwl:∀e∈ef,e.eO.length<=8388608)(hSl:S.length<=8388608)(hfS:∀f∈fs,f.aJ∈S)(Q:∀f∈i,f.aJ∈S)(hEs:∀e∈ef,∀f∈e.eO,f.aJ∈S)(y:c_ w):
 Calls prog 3 #[.slice a fs.length cap,.string ⟨aJ.toArray⟩,.string ⟨goal.toArray⟩,.slice r i.length co,.slice ae ef.length ce,.int .i64 aP] w λe T=>e= .returned (.bool true)/\Below w.heap.size w T :=by
 obtain⟨m,P⟩:=id y;have V:=U5 w _ P;have z:∀{k:List aI} {a:Option Addr} {b o:Nat},(0<k.length->a=some ⟨b,o,none⟩/\dA w b o k/\b<w.heap.size)->x_ k a o w:=λ{k a b o} n W j=>by
  have:=j.size;by_cases l:0<k.length
  ·obtain⟨B,u,J⟩:=n l;exact⟨b,λ_=>B,u.aL j J,by omega⟩
  ·exact⟨0,λh=>absurd h l,λO R=>by omega,by omega⟩
 have hie:Bh ef ae oe w:=λW j=>by
  have:=j.size;by_cases l:0<ef.length
  ·obtain⟨B,u⟩:=I l;exact⟨L,x,λ_=>B,u.aL (j.mono G),by omega⟩
  ·exact⟨W.heap.size,0,λh=>absurd h l,⟨by omega,λO R=>by omega⟩,TD _⟩
 obtain⟨U,A⟩:=E9;have C:=Nz A;by_cases F:∃c,g_ (fs.foldl Pl.bp []) aJ goal c/\c.2.1=0
 ·obtain⟨c,d,g⟩:=F;exact JL aJ goal D N A C ef S a r ae cap o co t ce oe aP w y (z n) (z K) hie hel hwl hSl hfS Q hEs d g
 ·have H:∃p:ag×Nat×Nat,p.2.1≠0/\p.1=[]/\∀c,g_ (fs.foldl Pl.bp []) aJ goal c->c=p:=by
   by_cases E:∃c,g_ (fs.foldl Pl.bp []) aJ goal c
   ·obtain⟨c,d⟩:=E;have g:c.2.1≠0:=λe=>F ⟨c,d,e⟩;exact⟨c,g,d.none g,λq s=>s.kC d⟩
   ·exact⟨([],1,0),by simp,rfl,λq s=>absurd ⟨q,s⟩ E⟩
  obtain⟨p,d,g,M⟩:=H;exact J' aJ goal D A C a r ae cap o _ co _ ce aP w y (z n) d g M
end Go.Proofs.YtjelacjggijmfaaGreatDoor
