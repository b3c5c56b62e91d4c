/- . -/
import Derived.Test.YtjelacjggijmfaaGreatDoorYW5
import Derived.Test.YtjelacjggijmfaaGreatDoorYSZ
set_option maxHeartbeats 16000000
set_option maxRecDepth 1000000
namespace Go.Proofs.YtjelacjggijmfaaGreatDoor
open Pl Mk Cp Proofs.Tryz
open RowKit
theorem vz (a:Nat)(L:az)(h:(L.toList==[105,110,99,108,117,100,101])=true):fq a L.data.toList=false:=by rw[UQ] at h;rw[show L.data.toList=ig from eq_of_beq h];rfl
theorem Bw (a:Nat)(L:az)(b:a≠5)(h:(L.toList==[105,110,99,108,117,100,101])=false):fq a L.data.toList=eo L.data.toList:=by rw[UQ] at h;unfold fq;rw[show (L.data.toList==ig)=false from h];simp[b]
theorem Bp (L:az)(h:(L.toList==[105,110,99,108,117,100,101])=false):fq 5 L.data.toList= !L.toList.isEmpty:=by rw[UQ] at h;unfold fq;rw[show (L.data.toList==ig)=false from h,si];rfl
theorem wY {a b:UInt8}(h:¬a=b):((a.toNat:Int)==(b.toNat:Int))=false:=by rw[TQ];intro d;apply h;rw[<-V6];exact Xi d
theorem Ka (n:Nat)(s:az)(w:ax)(hs:s.size<=4294967200)(h9:List.isPrefixOf [9] s.data.toList=false)(h0:0<s.size)(aH :((s[0].toNat:Int)==9)=false):
 Calls prog 150 #[.int .i64 n,.string s] w λe w'=>∃v,e= .returned v/\gH n (br s.data.toList) v/\Below w.heap.size w w' :=by
 obtain⟨a,hT,ae,aE⟩:=qX (Mk.cut (Mk.bj 35 s.data.toList));have G:=aB (Lu s.data.toList a.data.toList h9 ae);have aI:a.size<=4294967200:=by have h1:=q_ (Mk.bj 35 s.data.toList);have h2:=wv 35 s.data.toList;have h3:=Uf s;omega
 have R:=aB hT;have O:=aB ae;clear hT ae aE h9;go_enter func150,ntmps150;go_wp2_with fail
 go_loop [1,6] (λv I=>∃(C:az) (k:Nat),v= .string C/\I= .int .i64 k/\nr s C k) (λv I=>ox v+2-(intOf I).toNat)
 case atStart=>exact⟨s,0,rfl,rfl,.inl ⟨rfl,TS _,by simp⟩⟩
 case round=>
  obtain⟨C,k,rfl,rfl,ai⟩:=hrel;have aw:=ai.le;have j:=aB ai;clear ai;obtain⟨aK,aJ⟩:=aw;by_cases d:k<C.size
  ·by_cases M:(C[k]'d)=35
   ·have b:=aB (j.u.cut d M);have aF :(((C[k]'d).toNat:Int)==35)=true:=by rw[M];rfl
    clear M j;go_wp2_with fail
    refine⟨⟨_,k+1,rfl,by go_num,b.u⟩,?_⟩;simp[ox,intOf];omega
   ·have b:=aB (j.u.go d M);have aF :(((C[k]'d).toNat:Int)==35)=false:=by rw[TQ];intro h;apply M;rw[<-V6];exact Xi h
    clear M j;go_wp2_with fail
    refine⟨⟨C,k+1,rfl,by go_num,b.u⟩,?_⟩;simp[ox,intOf];omega
  ·have hd:=j.u.done d;have au:Mk.cut C.data.toList=Mk.cut (Mk.bj 35 s.data.toList):=by rw[hd]
   have al:=aB au;clear hd au j;go_wp2_with fail
   refine(lr _ _ (by omega)).mono ?_;rintro e i ⟨rfl,rfl⟩;rw[al.u,<-R.u];clear al;cases he:a.toList.isEmpty with
   |true=>
    have S:br s.data.toList=(Ln.zero,0):=by rw[G.u,<-si,he];rfl
    have b:=aB S;clear S G R O;go_wp2_with fail
    refine Ua (v:= .agg #[.int .i64 n,.int .u8 0,.string ⟨#[]⟩,.string ⟨#[]⟩]) (by simp[results,results150,go_sem]) rfl ⟨_,rfl,gH.of ?_ ?_,(aj w _).alloc (by simp) _⟩
    ·rw[b.u];rfl
    ·intro _;rw[b.u];exact⟨rfl,rfl⟩
   |false=>
    cases ac:a.toList==[105,110,99,108,117,100,101] with
    |true=>
     have S:rk (br s.data.toList)=120:=by rw[G.u,<-si,he];rw[UQ] at ac;rw[show a.data.toList=ig from eq_of_beq ac];rfl
     have b:=aB S;clear S G R O;go_wp2_with fail
     refine Ua (v:= .agg #[.int .i64 n,.int .u8 120,.string ⟨#[]⟩,.string ⟨#[]⟩]) (by simp[results,results150,go_sem]) rfl ⟨_,rfl,gH.of ?_ ?_,(aj w _).alloc (by simp) _⟩
     ·rw[b.u];rfl
     ·intro h;exact absurd rfl h
    |false=>
     have HN:Hid (a.data.toList≠ig):=by rw[UQ] at ac;have:(a.data.toList==ig)=false:=ac;show _≠_;simpa using this
     have HE:Hid (a.data.toList.isEmpty=false):=by show _=_;rw[<-si];exact he
     have HL:=aB (Uf a);have K:(a.extract 0 7).toList=a.data.toList.take 7:=by rw[UQ,Wj,V4]
     rcases Mu a.data.toList HN.u with⟨q,H,Q,U⟩|⟨U,hw⟩
     ·have P:7<a.size:=by rw[Uf];exact q
      have am :((a.extract 0 7).toList==[105,110,99,108,117,100,101])=true:=by rw[K];exact H
      have af :Mk.dF (a[7]'P)=true:=Q;have aD:(a.extract 7 a.size).size<=4294967296:=by simp;omega
      have b:Hid (br s.data.toList=(⟨0,2,[],Mk.cut (a.data.toList.drop 7)⟩,0)):=by show _=_;rw[G.u,HE.u,U,TJ (by decide),TP rfl];exact LN _ _ O.u q
      have HX:=aB (VY a 7);clear q H Q U K G R O HN HE HL;go_wp2_with fail
      refine(lT _ _).mono ?_;rintro e i ⟨rfl,rfl⟩;rw[af];go_wp2_with fail
      refine(lr _ _ aD).mono ?_;rintro e i ⟨rfl,rfl⟩;rw[HX.u];go_wp2_with fail
      refine Ua (v:= .agg #[.int .i64 n,.int .u8 105,.string ⟨#[]⟩,.string ⟨(Mk.cut (a.data.toList.drop 7)).toArray⟩]) (by simp[results,results150,go_sem]) rfl ⟨_,rfl,gH.of ?_ ?_,(aj w _).alloc (by simp) _⟩
      ·rw[b.u];rfl
      ·intro _;rw[b.u];exact⟨rfl,rfl⟩
     ·have b:Hid (br s.data.toList=fS a.data.toList):=by
       show _=_;rw[G.u,HE.u,U];rfl
      clear G R O HN HE U;rcases hw with q|⟨q,H|⟨H,Q⟩⟩
      case' false.false.inr.inl=>
       have P:a.size<=7:=by rw[Uf];exact q
       clear K q HL;go_wp2_with fail
      case' false.false.inr.inr.inl=>
       have P:7<a.size:=by rw[Uf];exact q
       have am :((a.extract 0 7).toList==[105,110,99,108,117,100,101])=false:=by rw[K];exact H
       clear K q H HL;go_wp2_with fail
      case' false.false.inr.inr.inr=>
       have P:7<a.size:=by rw[Uf];exact q
       have am :((a.extract 0 7).toList==[105,110,99,108,117,100,101])=true:=by rw[K];exact H
       have af :Mk.dF (a[7]'P)=false:=Q;clear K q H Q HL;go_wp2_with fail
       refine(lT _ _).mono ?_;rintro e i ⟨rfl,rfl⟩;rw[af];go_wp2_with fail
      all_goals
       go_loop [8] (λI=>∃k:Nat,k<=a.size/\I= .int .i64 k/\(a.data.toList.take k).all cU=true) (λI=>a.size-(intOf I).toNat)
       case atStart=>exact⟨0,TS _,rfl,by simp⟩
       case round=>
        obtain⟨k,hk,rfl,ak⟩:=hrel;have j:=aB ak;clear ak;by_cases d:k<a.size
        ·have p:Hid (k<a.data.toList.length):=by show k<_;rw[<-Uf];exact d
         obtain⟨L,ar,an,aA⟩:=qX (Mk.cut (a.data.toList.take k));have aa:L.size<=4294967296:=by have h1:=q_ (a.data.toList.take k);have h2:=List.length_take_le k a.data.toList;omega
         have V:=aB ar;have F:=aB an;have ad:(a.extract 0 k).size<=4294967296:=by simp;omega
         have ab:Hid ((a.extract 0 k).data.toList=a.data.toList.take k):=by show _=_;rw[Wj,V4,Zo]
         clear ar an aA;by_cases J:(a[k]'d)=61
         ·obtain⟨l,x,z,-⟩:=qX (Mk.cut (a.data.toList.drop (k+1)));have m:=sZ.of p.u j.u (show cU (a.data.toList[k]' p.u)=false from(show cU (a[k]'d)=false by rw[J];rfl)) (MU _ k p.u J);have r:Hid (fq 4 L.data.toList=true->fS a.data.toList=(⟨0,4,L.data.toList,l.data.toList⟩,0)):=by show _->_;rw[F.u,z];exact m.pM
          have A:Hid (fq 4 L.data.toList=false->rk (fS a.data.toList)=120):=by show _->_;rw[F.u];exact m.no
          have D:=aB x;have E:(a.extract (k+1) a.size).size<=4294967296:=by simp;omega
          have B:=aB (VY a (k+1));have ah:(((a[k]'d).toNat:Int) !=61)=false:=by rw[J];rfl
          have aq:(((a[k]'d).toNat:Int)==58)=false:=by rw[J];rfl
          clear J;clear m x z j p;go_wp2_with fail
          refine(lr _ _ ad).mono ?_;rintro e i ⟨rfl,rfl⟩;rw[ab.u,<-V.u];go_wp2_with fail
          refine(qN _ _ aa).mono ?_;rintro e i ⟨rfl,rfl⟩;cases t:L.toList==[105,110,99,108,117,100,101] with
          |true=>
           have f:=aB (vz 4 L t);generalize eo L.data.toList=T;go_wp2_with fail
           refine Ua (v:= .agg #[.int .i64 n,.int .u8 120,.string L,.string ⟨#[]⟩]) (by simp[results,results150,go_sem]) rfl ⟨_,rfl,gH.of ?_ ?_,(aj w _).alloc (by simp) _⟩
           ·rw[b.u,A.u f.u];rfl
           ·intro h;exact absurd rfl h
          |false=>
           have f:=aB (Bw 4 L (by decide) t);cases y:eo L.data.toList with
           |true=>
            have g:Hid (fq 4 L.data.toList=true):=by show _=_;rw[f.u,y]
            go_wp2_with fail
            refine(lr _ _ E).mono ?_;rintro e i ⟨rfl,rfl⟩;rw[B.u,<-D.u];go_wp2_with fail
            refine Ua (v:= .agg #[.int .i64 n,.int .u8 108,.string L,.string l]) (by simp[results,results150,go_sem]) rfl ⟨_,rfl,gH.of ?_ ?_,(aj w _).alloc (by simp) _⟩
            ·rw[b.u,r.u g.u];rfl
            ·intro _;rw[b.u,r.u g.u];exact⟨ie rfl,ie rfl⟩
           |false=>
            have g:Hid (fq 4 L.data.toList=false):=by show _=_;rw[f.u,y]
            go_wp2_with fail
            refine(lr _ _ E).mono ?_;rintro e i ⟨rfl,rfl⟩;rw[B.u,<-D.u];go_wp2_with fail
            refine Ua (v:= .agg #[.int .i64 n,.int .u8 120,.string L,.string l]) (by simp[results,results150,go_sem]) rfl ⟨_,rfl,gH.of ?_ ?_,(aj w _).alloc (by simp) _⟩
            ·rw[b.u,A.u g.u];rfl
            ·intro h;exact absurd rfl h
         ·have ah:(((a[k]'d).toNat:Int) !=61)=true:=by have:=wY J;simpa [bne] using this
          clear J;by_cases o:(a[k]'d)=58
          ·have aq:(((a[k]'d).toNat:Int) !=58)=false:=by rw[o];rfl
           have aG:(((a[k]'d).toNat:Int)==58)=true:=by rw[o];rfl
           by_cases hE:k+1=a.size
           ·obtain⟨l,x,z,-⟩:=qX (Mk.cut (a.data.toList.drop (k+1)));have m:=sZ.of p.u j.u (show cU (a.data.toList[k]' p.u)=false from(show cU (a[k]'d)=false by rw[o];rfl)) (JK _ k (by rw[<-Uf];exact hE) o);have r:Hid (fq 5 L.data.toList=true->fS a.data.toList=(⟨0,5,L.data.toList,l.data.toList⟩,0)):=by show _->_;rw[F.u,z];exact m.pM
            have A:Hid (fq 5 L.data.toList=false->rk (fS a.data.toList)=120):=by show _->_;rw[F.u];exact m.no
            have D:=aB x;have E:(a.extract (k+1) a.size).size<=4294967296:=by simp;omega
            have B:=aB (VY a (k+1));have aC:(((k:Int)+1)==(a.size:Int))=true:=by rw[UR];omega
            clear hE;clear o;clear m x z j p;go_wp2_with fail
            refine(lr _ _ ad).mono ?_;rintro e i ⟨rfl,rfl⟩;rw[ab.u,<-V.u];go_wp2_with fail
            refine(qN _ _ aa).mono ?_;rintro e i ⟨rfl,rfl⟩;cases t:L.toList==[105,110,99,108,117,100,101] with
            |true=>
             have f:=aB (vz 5 L t);generalize eo L.data.toList=T;go_wp2_with fail
             refine Ua (v:= .agg #[.int .i64 n,.int .u8 120,.string L,.string ⟨#[]⟩]) (by simp[results,results150,go_sem]) rfl ⟨_,rfl,gH.of ?_ ?_,(aj w _).alloc (by simp) _⟩
             ·rw[b.u,A.u f.u];rfl
             ·intro h;exact absurd rfl h
            |false=>
             have f:=aB (Bp L t);generalize eo L.data.toList=T;go_wp2_with fail
             refine(lr _ _ E).mono ?_;rintro e i ⟨rfl,rfl⟩;rw[B.u,<-D.u];cases y:L.toList.isEmpty with
             |true=>
              have g:Hid (fq 5 L.data.toList=false):=by show _=_;rw[f.u,y];rfl
              go_wp2_with fail
              refine Ua (v:= .agg #[.int .i64 n,.int .u8 120,.string L,.string l]) (by simp[results,results150,go_sem]) rfl ⟨_,rfl,gH.of ?_ ?_,(aj w _).alloc (by simp) _⟩
              ·rw[b.u,A.u g.u];rfl
              ·intro h;exact absurd rfl h
             |false=>
              have g:Hid (fq 5 L.data.toList=true):=by show _=_;rw[f.u,y];rfl
              go_wp2_with fail
              refine Ua (v:= .agg #[.int .i64 n,.int .u8 114,.string L,.string l]) (by simp[results,results150,go_sem]) rfl ⟨_,rfl,gH.of ?_ ?_,(aj w _).alloc (by simp) _⟩
              ·rw[b.u,r.u g.u];rfl
              ·intro _;rw[b.u,r.u g.u];exact⟨ie rfl,ie rfl⟩
           ·have Y:k+1<a.size:=by omega
            have ao:Hid (k+1<a.data.toList.length):=by show k+1<_;rw[<-Uf];exact Y
            have aC:(((k:Int)+1)==(a.size:Int))=false:=by rw[TQ];omega
            by_cases N:(a[k+1]'Y)=61
            ·obtain⟨l,x,z,-⟩:=qX (Mk.cut (a.data.toList.drop (k+2)));have m:=sZ.of p.u j.u (show cU (a.data.toList[k]' p.u)=false from(show cU (a[k]'d)=false by rw[o];rfl)) (K9 _ k ao.u o N);have r:Hid (fq 3 L.data.toList=true->fS a.data.toList=(⟨0,3,L.data.toList,l.data.toList⟩,0)):=by show _->_;rw[F.u,z];exact m.pM
             have A:Hid (fq 3 L.data.toList=false->rk (fS a.data.toList)=120):=by show _->_;rw[F.u];exact m.no
             have D:=aB x;have E:(a.extract (k+2) a.size).size<=4294967296:=by simp;omega
             have B:=aB (VY a (k+2));have av:(((a[k+1]'Y).toNat:Int) !=61)=false:=by rw[N];rfl
             clear o N;clear m x z j p;go_wp2_with fail
             refine(lr _ _ ad).mono ?_;rintro e i ⟨rfl,rfl⟩;rw[ab.u,<-V.u];go_wp2_with fail
             refine(qN _ _ aa).mono ?_;rintro e i ⟨rfl,rfl⟩;cases t:L.toList==[105,110,99,108,117,100,101] with
             |true=>
              have f:=aB (vz 3 L t);generalize eo L.data.toList=T;go_wp2_with fail
              refine Ua (v:= .agg #[.int .i64 n,.int .u8 120,.string L,.string ⟨#[]⟩]) (by simp[results,results150,go_sem]) rfl ⟨_,rfl,gH.of ?_ ?_,(aj w _).alloc (by simp) _⟩
              ·rw[b.u,A.u f.u];rfl
              ·intro h;exact absurd rfl h
             |false=>
              have f:=aB (Bw 3 L (by decide) t);cases y:eo L.data.toList with
              |true=>
               have g:Hid (fq 3 L.data.toList=true):=by show _=_;rw[f.u,y]
               go_wp2_with fail
               refine(lr _ _ E).mono ?_;rintro e i ⟨rfl,rfl⟩;rw[B.u,<-D.u];go_wp2_with fail
               refine Ua (v:= .agg #[.int .i64 n,.int .u8 102,.string L,.string l]) (by simp[results,results150,go_sem]) rfl ⟨_,rfl,gH.of ?_ ?_,(aj w _).alloc (by simp) _⟩
               ·rw[b.u,r.u g.u];rfl
               ·intro _;rw[b.u,r.u g.u];exact⟨ie rfl,ie rfl⟩
              |false=>
               have g:Hid (fq 3 L.data.toList=false):=by show _=_;rw[f.u,y]
               go_wp2_with fail
               refine(lr _ _ E).mono ?_;rintro e i ⟨rfl,rfl⟩;rw[B.u,<-D.u];go_wp2_with fail
               refine Ua (v:= .agg #[.int .i64 n,.int .u8 120,.string L,.string l]) (by simp[results,results150,go_sem]) rfl ⟨_,rfl,gH.of ?_ ?_,(aj w _).alloc (by simp) _⟩
               ·rw[b.u,A.u g.u];rfl
               ·intro h;exact absurd rfl h
            ·obtain⟨l,x,z,-⟩:=qX (Mk.cut (a.data.toList.drop (k+1)));have m:=sZ.of p.u j.u (show cU (a.data.toList[k]' p.u)=false from(show cU (a[k]'d)=false by rw[o];rfl)) (M2 _ k ao.u o N);have r:Hid (fq 5 L.data.toList=true->fS a.data.toList=(⟨0,5,L.data.toList,l.data.toList⟩,0)):=by show _->_;rw[F.u,z];exact m.pM
             have A:Hid (fq 5 L.data.toList=false->rk (fS a.data.toList)=120):=by show _->_;rw[F.u];exact m.no
             have D:=aB x;have E:(a.extract (k+1) a.size).size<=4294967296:=by simp;omega
             have B:=aB (VY a (k+1));have av:(((a[k+1]'Y).toNat:Int) !=61)=true:=by have:=wY N;simpa [bne] using this
             clear o N;clear m x z j p;go_wp2_with fail
             refine(lr _ _ ad).mono ?_;rintro e i ⟨rfl,rfl⟩;rw[ab.u,<-V.u];go_wp2_with fail
             refine(qN _ _ aa).mono ?_;rintro e i ⟨rfl,rfl⟩;cases t:L.toList==[105,110,99,108,117,100,101] with
             |true=>
              have f:=aB (vz 5 L t);generalize eo L.data.toList=T;go_wp2_with fail
              refine Ua (v:= .agg #[.int .i64 n,.int .u8 120,.string L,.string ⟨#[]⟩]) (by simp[results,results150,go_sem]) rfl ⟨_,rfl,gH.of ?_ ?_,(aj w _).alloc (by simp) _⟩
              ·rw[b.u,A.u f.u];rfl
              ·intro h;exact absurd rfl h
             |false=>
              have f:=aB (Bp L t);generalize eo L.data.toList=T;go_wp2_with fail
              refine(lr _ _ E).mono ?_;rintro e i ⟨rfl,rfl⟩;rw[B.u,<-D.u];cases y:L.toList.isEmpty with
              |true=>
               have g:Hid (fq 5 L.data.toList=false):=by show _=_;rw[f.u,y];rfl
               go_wp2_with fail
               refine Ua (v:= .agg #[.int .i64 n,.int .u8 120,.string L,.string l]) (by simp[results,results150,go_sem]) rfl ⟨_,rfl,gH.of ?_ ?_,(aj w _).alloc (by simp) _⟩
               ·rw[b.u,A.u g.u];rfl
               ·intro h;exact absurd rfl h
              |false=>
               have g:Hid (fq 5 L.data.toList=true):=by show _=_;rw[f.u,y];rfl
               go_wp2_with fail
               refine Ua (v:= .agg #[.int .i64 n,.int .u8 114,.string L,.string l]) (by simp[results,results150,go_sem]) rfl ⟨_,rfl,gH.of ?_ ?_,(aj w _).alloc (by simp) _⟩
               ·rw[b.u,r.u g.u];rfl
               ·intro _;rw[b.u,r.u g.u];exact⟨ie rfl,ie rfl⟩
          ·have HG:Hid ((a.data.toList.take (k+1)).all cU=true):=by
            show _=_;rw[qS a k d,Zf,j.u];have h1:¬(a[k]'d)=61:=by intro h;rw[h] at ah;exact absurd ah (by decide)
            simp[cU,h1,o]
           have aq:(((a[k]'d).toNat:Int) !=58)=true:=by have:=wY o;simpa [bne] using this
           clear o;go_wp2_with fail
           refine⟨⟨k+1,by omega,by go_num,HG.u⟩,?_⟩;simp[intOf];omega
        ·have HZ:Hid (rk (fS a.data.toList)=120):=by
          refine QB _ ?_;have:=j.u;rwa [Uh (by rw[<-Uf];omega)] at this
         go_wp2_with fail
         refine Ua (v:= .agg #[.int .i64 n,.int .u8 120,.string ⟨#[]⟩,.string ⟨#[]⟩]) (by simp[results,results150,go_sem]) rfl ⟨_,rfl,gH.of ?_ ?_,(aj w _).alloc (by simp) _⟩
         ·rw[b.u,HZ.u];rfl
         ·intro h;exact absurd rfl h
section
attribute [local go_sem↓] Xg Xh
section
variable {w:ax} {pb xb ob:Nat} {ap:Option Addr} {cp:Nat} {c:ag} {ss:List ag} {ve vf vc vs:ay} {st:List Bool} {fl:Nat->Bool} {X:Wd} {W Z:ax}
theorem fe.push {v' x:ay}{a:Obj}(h:fe w pb xb ob ap cp c ss ve vf vc vs st fl X W)(f:(W.alloc a).grownBy Z vs.ownBlock)(b:Bool)(e:x=iw b)(d:Z.ownsRow (xb+1) 3 1 v' (st.length+1) (st.map iw++[x])):
 fe w pb xb ob ap cp c ss ve vf vc v' (st++[b]) fl X Z:=
 h.cF ((UK W a _).trans f) (.inr rfl) (by subst e;simpa using d)
theorem fe.cP (h:fe w pb xb ob ap cp c ss ve vf vc vs st fl X W)(e:0<ss.length):∃b,ap=some ⟨b,0,none⟩/\∀n (a:n<ss.length),W.cell? ⟨b,n,none⟩=some (.string ⟨ss[n].toArray⟩):=by obtain⟨b,f,d⟩:=h.aY;refine⟨b,(f e).1,λn a=> ?_⟩;have:=d n a;rw[Ur] at this;exact this
end
theorem PG {op h:Nat}(b:Pl.iK op<=h)(a:Pl.ey op h<=16):h<=18:=by
 unfold Pl.ey at a;have:Pl.iK op<=2:=by unfold Pl.iK;split<;>(try split)<;>omega
 omega
theorem PZ {n:Nat}(h:n<=1):Value.int .i64 (n:Int)=iw (n==1):=by
 unfold iw;have:n=0\/n=1:=by omega
 rcases this with rfl|rfl<;>rfl
theorem Pc {st:List Bool}(h:2<=st.length):∃a x y,st=a++[x,y]:=by
 rcases WZ st with rfl|⟨s1,y,rfl⟩
 ·simp at h
 ·rcases WZ s1 with rfl|⟨a,x,rfl⟩
  ·simp at h
  ·exact⟨a,x,y,by simp⟩
theorem O' {st:List Bool}(h:1<=st.length):∃a y,st=a++[y]:=by
 rcases WZ st with rfl|⟨s1,y,rfl⟩
 ·simp at h
 ·exact⟨s1,y,by simp⟩
theorem Q7 (c:ag)(a:Nat):two c a<=65535:=by unfold two;have d:=(c.getD a 0).toNat_lt;have b:=(c.getD (a+1) 0).toNat_lt;omega
theorem Pq (a:List Bool)(x y:Bool):(a++[x,y]).dropLast.dropLast=a:=by rw[show a++[x,y]=(a++[x])++[y] by simp,Vx,Vx]
theorem NN (a:List Bool)(x y:Bool):(a++[x,y]).getLast?.getD false=y:=by simp
theorem NK (a:List Bool)(x y:Bool):(a++[x,y]).dropLast.getLast?.getD false=x:=by rw[show a++[x,y]=(a++[x])++[y] by simp,Vx];simp
theorem ET (a:List bL)(X:Wd)(c:ag):(ia a X c).aH.length=X.aH.length+1:=by unfold ia;split<;>simp
theorem Fit.xv {S:List ag}{ef:List bL}{X:Wd}{c:ag}(h:Fit S X.aX)(b:∀e∈ef,∀f∈e.eO,f.aJ∈S):Fit S (ia ef X c).aX:=by
 unfold ia;split
 ·exact h
 ·rename_i e a;exact Fit.xO _ _ h (b e (Uw a))
theorem Dc (aY:ag)(hl:aY.length<=8388608)(bS:kK aY)(fs:List aI)(l:List bL)(a ae:Option Addr)(cap b br ce L be oe:Nat)(aP:Int)(w:ax)(ha:0<fs.length->a=some ⟨b,br,none⟩)(hr:dA w b br fs)(bG:b<w.heap.size)(bp:fs.length<=8388608)(bV:0<l.length->ae=some ⟨be,oe,none⟩)(hE:nP w L be oe l)(hL:L<=w.heap.size)(cn:l.length<=8388608)(b5:∀e∈l,e.eO.length<=8388608)(S:List ag)(hS:S.length<=8388608)(bI:∀f∈fs,f.aJ∈S)(bF:∀e∈l,∀f∈e.eO,f.aJ∈S):
 Calls prog 14 #[.string ⟨aY.toArray⟩,.slice a fs.length cap,.slice ae l.length ce,.int .i64 aP] w λe j=>zN aY fs l aP w e j :=by
 obtain⟨i0,bW,bN,bX,b6⟩:=UF Tryz.w_;have a0:=aB bW;have a4:=aB bN;have a3:=aB bX;have a7:=aB b6;clear bW bN bX b6;have HY:=aB bS;have CC:=aB (λW=>JT aY W hl);have CL:=aB (λW=>FL aY W hl);have HR:=aB hr;have HA:=aB ha;have HE:=aB hE;have b_:=aB bV;have co:=aB b5;have bM:=aB bF;have b3:Hid (Fit S (gQ fs aP).aX):=Fit.AP fs ⟨by simp[oG],by simp⟩ bI;have CW:=aB (λW (hb:Below w.heap.size w W)=>BR fs a ae cap b br l.length ce aP W ha (hr.aL hb bG) (T7 bG hb.size) bp);have H0:=aB (aG.bA w 32 [.slice none 0 0,.slice none 0 0,.int .i64 0,.int .i64 0]);have aW:=aB (aj w (.cells #[.slice none 0 0,.slice none 0 0,.int .i64 0,.int .i64 0] 32));have ci:∀w,(Instr.makeSlice 82 (.int .i64 256) (.int .i64 256)).run prog w= .ok (.slice (some ⟨w.heap.size,0,none⟩) 256 256) (w.alloc (.cells (madeCells #[.bool false] 256) 4)):=XE (P:=prog) 82 4 (.bool false) 1 ZT Tryz.zw rfl .i64 .i64 256 (by omega) (by omega);clear bS hr ha hE bV b5 bI bF;go_enter func14,ntmps14;go_wp2_with (first|(go_at_call 41;refine(CC.u _).mono ?_;rintro e w1 ⟨⟨z,rfl,i⟩,bC⟩;obtain⟨rfl,-⟩:=i.resolve_right (λh=>h.2 HY.u);have bc:=aB bC;clear i bC)|(go_at_call 42;refine(CL.u _).mono ?_;rintro e w2 ⟨h2,bZ⟩;obtain⟨ss,c,pb,vp,bO,rfl,bD,ai,bJ⟩:=h2.resolve_left (λh=>by obtain⟨x,hx,_⟩:=HY.u;rw[h.1] at hx;cases hx);have bg:=aB bZ;have bd:=aB bO;have bY:=aB bD;have bQ:=aB ai;clear bZ bO bD ai h2)|(go_at_call 43;refine(CW.u _ (aW.u.trans ((bc.u.mono aW.u.size).trans (bg.u.mono (TT aW.u.size bc.u.size))))).mono ?_;rintro e w3 ⟨rfl,vf,vc,bK,bx⟩;have b2:=aB bx;have b4:=aB bK;clear bx bK)|fail)
 obtain⟨ap,cp,rfl,aq⟩:=KV bc.u bg.u b2.u bJ bY.u bQ.u b4.u;have bw:Sn c ss.length 0 0:=by obtain⟨x,hx,hs⟩:=HY.u;rw[bd.u] at hx;cases hx;exact⟨_,hs⟩
 have am:=aB bw;have t:=aB aq;have cA:c.length<=8388608:=TT (MK bd.u) hl;have aF:=eh c;have ad:=aB (Pl.Ends.start c ss l (gQ fs aP));generalize hR:jC c ss l (gQ fs aP)=R at ad;have bR:=aB hR;generalize w3.alloc (.cells (madeCells #[.bool false] 256) 4)=W0 at*;generalize (w.alloc (.cells #[.slice none 0 0,.slice none 0 0,.int .i64 0,.int .i64 0] 32))=w0 at*;generalize w2.heap.size=xb at*;generalize w3.heap.size=ob at*;clear bw aq CC CL CW ci hR bc bg b2 bY bQ b4 bJ;go_loopw [14,16] (λvs bh wr=>∃(d:Nat) (st:List Bool) (fl:Nat->Bool) (X:Wd) (vf vc:ay),bh= .int .i64 d/\Hid (Sn c ss.length d st.length)/\Hid (Pl.Ends c ss l d st fl X R)/\Hid (fe w0 pb xb ob ap cp c ss (.slice ae l.length ce) vf vc vs st fl X wr)/\Hid (Fit S X.aX)/\X.aH.length<=d) (λ_ bh _=>c.length-aS bh)
 case atStart=>exact⟨0,[],_,_,vf,vc,rfl,am,ad,t,b3,TS _⟩
 case round=>
  clear am ad t;clear b3;obtain⟨d,st,fl,X,V,Q,rfl,am,ad,t,an,gp⟩:=hrel;have k1:=t.u.dS.cell 1 (by simp);have k4:=t.u.eW.row.cell 4 (by simp);simp only[TG,TI] at k1 k4;by_cases bn:d<c.length/\X.exit=0
  ·obtain⟨hp,b7⟩:=bn;obtain⟨s,au⟩:∃s:az,s=⟨c.toArray⟩:=⟨_,rfl⟩;have T:c=s.data.toList:=by rw[au]
   have aw:=aB au;rw[<-au] at k1 aF;have b9:d<s.size:=by rw[aF];exact hp
   have O:=oj s d b9;rw[<-T] at O;have D:=am.u.IJ hp;obtain⟨p,aD⟩:=am.u.next (ss:=ss) (ef:=l) (fl:=fl) (X:=X) hp;have r:=ad.u.step hp b7 aD;have t1:(d:Int)<(s.size:Int):=by omega
   rw[b7] at k4;obtain⟨sa,sc,ct⟩:=dX t.u.ju;subst ct;have kl:st.length<=18:=PG D.iK D.ey;have i16:(st.length:Int)<=18:=by omega
   rcases zQ D.cd.1 with h|h|h|h|h|h|h|h
   ·have i:ee (Pl.opAt c d)=2:=by rw[h];rfl
    have G:(a_ c d).next=d+2:=by show d+_=_;rw[i]
    have E:(a_ c d).first=Pl.opAt c (d+1):=by unfold a_;simp[i]
    have F:dG ss l (a_ c d) st fl X=(d+2,st++[Pl.opAt c (d+1)==1],fl,X):=by unfold dG;rw[show (a_ c d).op=1 from h,G,E];rfl
    rw[F] at p r;have al:=D.fG.1 h;rw[E] at al;have U:=D.cd.2;rw[i] at U;have a9:d+1<s.size:=by rw[aF];omega
    have ar:=oj s (d+1) a9;rw[<-T] at ar;have aV:s[d].toNat=1:=by rw[<-O];exact h
    have CS:Hid (∀W,Calls prog 44 #[.int .i64 1] W λe j=>e= .returned (.int .i64 2)/\Below W.heap.size W j):=λW=>oa 1 (by omega) W;rw[ar] at p r al;have aA:=aB (PZ al);have t2:(d:Int)+1<(s.size:Int):=by omega
    have t3:((s[d+1].toNat:Nat):Int)<=1:=by omega
    have M:=aB p;have K:=aB r;clear O ar F G E i p aD r U D T au am ad h al;as_aux_lemma=>
     go_wp2_with (first|(go_at_call 44;refine(CS.u _).mono ?_;rintro e w5 ⟨rfl,o⟩;have g:=aB (t.u.aE o);have A:=g.u.dS.cell 1 (by simp);simp only[TG,TI] at A;rw[<-aw.u] at A;have aU:=g.u.eW.row.lt;clear o)|(at_builtin;refine Uo _ rfl (.tmp 70) (.tmp 79) 41 rfl (xb+1) 3 i0 (.int .i64 0) 1 8 Wb a0.u a4.u a3.u a7.u rfl (by decide) _ st.length _ rfl (T_ g.u.ju _) ⟨_,0,none⟩ 1 1 [.int .i64 s[d+1].toNat] rfl rfl (gw _ _ [_]) (uL _) (by unfold maxLen;omega) (by omega) (by rw[TM];omega) ?_;intro v1 w1 af ak aQ;have ab:=aB (g.u.push ak _ aA.u af);clear af ak aQ)|fail)
     go_roundw
     case rel=>exact⟨d+2,_,fl,X,V,Q,by go_num,M,K,ab,an,by omega⟩
     case measure=>simp only[aS];omega
   ·have i:ee (Pl.opAt c d)=3:=by rw[h];rfl
    have G:(a_ c d).next=d+3:=by show d+_=_;rw[i]
    have E:(a_ c d).first=two c (d+1):=by unfold a_;simp[i]
    have J:(a_ c d).op=2:=h;have al:=D.fG.2.1 (.inl J);have U:=D.cd.2;rw[i] at U;have F:dG ss l (a_ c d) st fl X=(d+3,st++[(Pl.look X.aX (ss.getD (two c (d+1)) [])).isNone],fl,X):=by unfold dG;rw[J,G,E];rfl
    rw[F] at p r;rw[E] at al;have aV:s[d].toNat=2:=by rw[<-O];exact h
    have CS:Hid (∀W,Calls prog 44 #[.int .i64 2] W λe j=>e= .returned (.int .i64 3)/\Below W.heap.size W j):=λW=>oa 2 (by omega) W;have CT:Hid (∀W,Calls prog 46 #[.string s,.int .i64 ((d:Int)+1)] W λe j=>e= .returned (.int .i64 (two c (d+1)))/\W.drew=j):=λW=>by have:=ng s (d+1) W (by omega) (by omega);rw[<-T] at this;exact this
    generalize aO:two c (d+1)=n at*;have a1:ss.getD n []=ss[n]:=by rw[TO,TH al];rfl
    rw[a1] at p r;have aA:Hid ((iG X.aX ss[n]= -1/\(Pl.look X.aX ss[n]).isNone=true)\/∃k:Nat,iG X.aX ss[n]=k/\(Pl.look X.aX ss[n]).isNone=false):=by
     rcases oY (fs:=X.aX) (p:=ss[n]) with⟨e1,e2⟩|⟨k,hk,e1,e2⟩
     ·exact .inl ⟨e1,by rw[e2];rfl⟩
     ·exact .inr ⟨k,e1,by rw[e2];rfl⟩
    have bp:=an.u.len;obtain⟨bs,rfl,-⟩:=t.u.cP (by omega);have M:=aB p;have K:=aB r;clear O F G E i p aD r D T au am ad h J aO a1;as_aux_lemma=>
     go_wp2_with (first|(go_at_call 44;refine(CS.u _).mono ?_;rintro e w5 ⟨rfl,o⟩;have g:=aB (t.u.aE o);have A:=g.u.dS.cell 1 (by simp);have q0:=g.u.dS.cell 0 (by simp);have x0:=g.u.eW.row.cell 0 (by simp);simp only[TG,TI] at q0 A x0;rw[<-aw.u] at A;obtain⟨bT,a2,aC⟩:=g.u.cP (by omega);cases a2;have q2:=aC n al;have aU:=g.u.eW.row.lt;obtain⟨av,cv,gv,rfl,bE,b0,-⟩:=g.u.eW.aX.rd;have CF:=aB (λm=>n_ X.aX ss[n] av cv gv 0 (w5.drewN m) bE b0 (by omega));unfold aK at CF;clear o aC bE b0)|fail)
     have bU:Hid (∃(z:Int) (b:Bool),iG X.aX ss[n]=z/\(Pl.look X.aX ss[n]).isNone=b/\((z<0/\Value.int .i64 1=iw b)\/(¬z<0/\Value.int .i64 0=iw b))):=by
      rcases aA.u with⟨e1,e2⟩|⟨k,e1,e2⟩
      ·exact⟨_,_,e1,e2,.inl ⟨by omega,rfl⟩⟩
      ·exact⟨_,_,e1,e2,.inr ⟨by omega,rfl⟩⟩
     clear aA;obtain⟨z,bz,e1,e2,cl⟩:=bU.u;rw[e1] at CF;rw[e2] at M K;clear bU e1 e2;go_quiet (first|(go_at_call 45;exact V_ ((CF.u _).mono (λ_ _ h=>⟨h.1,h.2.symm⟩)))|(go_at_call 46;exact Yk ((CT.u _).mono (λ_ _ h=>⟨h.1,1,h.2.symm⟩))))
     have aM:=aB (g.u.aE (Below.drewN (TF _ w5) nq));have b8:=aM.u.eW.row.lt;rcases cl with⟨ck,bj⟩|⟨ck,bj⟩;all_goals have aA:=aB bj
     all_goals clear bj
     all_goals go_wp2_with (first|(go_at_call 47;refine(vA _ _).mono ?_;rintro e w7 ⟨rfl,rfl⟩)|(at_builtin;refine Uo _ rfl (.tmp 101) (.tmp 105) 41 rfl (xb+1) 3 i0 (.int .i64 0) 1 8 Wb a0.u a4.u a3.u a7.u rfl (by decide) _ st.length _ rfl (T_ aM.u.ju _) ⟨_,0,none⟩ 1 1 [_] rfl rfl (gw _ _ [_]) (uL _) (by unfold maxLen;omega) (by omega) (by rw[TM];omega) ?_;intro v1 w1 af ak aQ;have ab:=aB (aM.u.push ak _ aA.u af);clear af ak aQ)|fail)
     all_goals go_roundw
     all_goals first
      |exact⟨d+3,_,fl,X,_,Q,by go_num,M,K,ab,an,by omega⟩
      |(simp only[aS];omega)
   ·have i:ee (Pl.opAt c d)=5:=by rw[h];rfl
    have G:(a_ c d).next=d+5:=by show d+_=_;rw[i]
    have J:(a_ c d).op=3:=h;have U:=D.cd.2;rw[i] at U;have aV:s[d].toNat=3:=by rw[<-O];exact h
    have CS:Hid (∀W,Calls prog 44 #[.int .i64 3] W λe j=>e= .returned (.int .i64 5)/\Below W.heap.size W j):=λW=>oa 3 (by omega) W;have E:(a_ c d).first=two c (d+1):=by unfold a_;simp[i]
    have bl:(a_ c d).s7=two c (d+3):=by unfold a_;simp[i]
    obtain⟨bf,a'⟩:=D.fG.2.2 J;have F:dG ss l (a_ c d) st fl X=(d+5,st++[h_ X.aX (ss.getD (two c (d+1)) []) (ss.getD (two c (d+3)) [])],fl,X):=by unfold dG;rw[J,G,E,bl];rfl
    rw[F] at p r;rw[E] at bf;rw[bl] at a';obtain⟨u1,ah⟩:∃q:Nat,q=d+1:=⟨_,rfl⟩;have a8:Hid (∀W,Calls prog 46 #[.string s,.int .i64 (u1:Int)] W λe j=>e= .returned (.int .i64 (two c (d+1)))/\W.drew=j):=λW=>by have:=ng s u1 W (by omega) (by omega);rw[<-T,ah] at this;rw[ah];exact this
    have bH:IntKind.i64.wrap ((d:Int)+1)=(u1:Int):=by rw[wrap_small (by omega) (by omega),ah];rfl
    clear ah;obtain⟨u3,bb⟩:∃q:Nat,q=d+3:=⟨_,rfl⟩;have cm:Hid (∀W,Calls prog 46 #[.string s,.int .i64 (u3:Int)] W λe j=>e= .returned (.int .i64 (two c (d+3)))/\W.drew=j):=λW=>by have:=ng s u3 W (by omega) (by omega);rw[<-T,bb] at this;rw[bb];exact this
    have cD:IntKind.i64.wrap ((d:Int)+3)=(u3:Int):=by rw[wrap_small (by omega) (by omega),bb];rfl
    clear bb;generalize aO:two c (d+1)=n1 at*;generalize b':two c (d+3)=n2 at*;have bB:ss.getD n1 []=ss[n1]:=by rw[TO,TH bf];rfl
    have b1:ss.getD n2 []=ss[n2]:=by rw[TO,TH a'];rfl
    rw[bB,b1] at p r;have bp:=an.u.len;obtain⟨bs,rfl,-⟩:=t.u.cP (by omega);have CN:Hid (∀W,fe w0 pb xb ob (some ⟨bs,0,none⟩) cp c ss (.slice ae l.length ce) V Q (.slice sa st.length sc) st fl X W->Calls prog 48 #[.pointer (some ⟨xb,0,none⟩),.string ⟨ss[n1].toArray⟩,.string ⟨ss[n2].toArray⟩] W λe j=>e= .returned (.bool (h_ X.aX ss[n1] ss[n2]))/\fe w0 pb xb ob (some ⟨bs,0,none⟩) cp c ss (.slice ae l.length ce) V Q (.slice sa st.length sc) st fl X j):=λW C=>(BH ss[n1] ss[n2] _ _ _ _ _ _ W C.eW (by omega)).mono (λe j hh=>⟨hh.1,C.aE hh.2⟩);generalize h_ X.aX ss[n1] ss[n2]=nb at*;have aA:Hid (Value.int .i64 (if nb then 1 else 0)=iw nb):=rfl;have M:=aB p;have K:=aB r;clear O F G E bl i p aD r D T au am ad h J aO b' bB b1;as_aux_lemma=>
     go_wp2_with (first|(go_at_call 44;refine(CS.u _).mono ?_;rintro e w5 ⟨rfl,o⟩;have g:=aB (t.u.aE o);have A:=g.u.dS.cell 1 (by simp);simp only[TG,TI] at A;rw[<-aw.u] at A;have aU:=g.u.eW.row.lt;have q0:=g.u.dS.cell 0 (by simp);simp only[TG] at q0;obtain⟨bT,a2,aC⟩:=g.u.cP (by omega);cases a2;have q2:=aC n1 bf;have q3:=aC n2 a';clear aC;clear o)|fail)
     have i1:(n1:Int)<(ss.length:Int):=by omega
     have i2:(n2:Int)<(ss.length:Int):=by omega
     have i3:(0:Int)<=(n1:Int):=by omega
     have i4:(0:Int)<=(n2:Int):=by omega
     go_region_held3 (λj=>j.cell? ⟨pb,0,none⟩=some (.slice (some ⟨bs,0,none⟩) ss.length cp)/\j.cell? ⟨pb,1,none⟩=some (.string s)/\j.cell? ⟨bs,n1,none⟩=some (.string ⟨ss[n1].toArray⟩)/\j.cell? ⟨bs,n2,none⟩=some (.string ⟨ss[n2].toArray⟩)) (go_keep) (first|(go_at_call_of 46 (u1:Int);refine(a8.u _).mono ?_;rintro e w6 ⟨rfl,rfl⟩)|(go_at_call_of 46 (u3:Int);refine(cm.u _).mono ?_;rintro e w6 ⟨rfl,rfl⟩)|(go_at_call 48;refine(CN.u _ ?_).mono ?_;exact g.u.aE (((TF _ w5).drew).drew).drew;rintro e w6 ⟨rfl,ao⟩;have aM:=aB ao;have b8:=ao.eW.row.lt;have y0:=ao.dS.cell 0 (by simp);have y1:=ao.dS.cell 1 (by simp);simp only[TG,TI] at y0 y1;rw[<-aw.u] at y1;obtain⟨cq,bt,aZ⟩:=ao.cP (by omega);cases bt;have y2:=aZ n1 bf;have y3:=aZ n2 a';clear aZ ao))
     all_goals go_wp2_with (first|(go_at_call 47;refine(vA _ _).mono ?_;rintro e w7 ⟨rfl,rfl⟩)|(at_builtin;refine Uo _ rfl (.tmp 137) (.tmp 140) 41 rfl (xb+1) 3 i0 (.int .i64 0) 1 8 Wb a0.u a4.u a3.u a7.u rfl (by decide) _ st.length _ rfl (T_ aM.u.ju _) ⟨_,0,none⟩ 1 1 [_] rfl rfl (gw _ _ [_]) (uL _) (by unfold maxLen;omega) (by omega) (by rw[TM];omega) ?_;intro v1 w1 af ak aQ;have ab:=aB (aM.u.push ak _ aA.u af);clear af ak aQ)|fail)
     all_goals go_roundw
     all_goals first
      |exact⟨d+5,_,fl,X,_,Q,by go_num,M,K,ab,an,by omega⟩
      |(simp only[aS];omega)
   ·have i:ee (Pl.opAt c d)=2:=by rw[h];rfl
    have G:(a_ c d).next=d+2:=by show d+_=_;rw[i]
    have J:(a_ c d).op=4:=h;have U:=D.cd.2;rw[i] at U;have aV:s[d].toNat=4:=by rw[<-O];exact h
    have CS:Hid (∀W,Calls prog 44 #[.int .i64 4] W λe j=>e= .returned (.int .i64 2)/\Below W.heap.size W j):=λW=>oa 4 (by omega) W;have E:(a_ c d).first=Pl.opAt c (d+1):=by unfold a_;simp[i]
    have F:dG ss l (a_ c d) st fl X=(d+2,st++[fl (Pl.opAt c (d+1))],fl,X):=by unfold dG;rw[J,G,E];rfl
    rw[F] at p r;have a9:d+1<s.size:=by rw[aF];omega
    have ar:=oj s (d+1) a9;rw[<-T] at ar;have hi:=uN c (d+1);rw[ar] at p r hi;have t2:(d:Int)+1<(s.size:Int):=by omega
    have t3:((s[d+1].toNat:Nat):Int)<256:=by omega
    have aA:Hid (Value.int .i64 (if fl s[d+1].toNat then 1 else 0)=iw (fl s[d+1].toNat)):=rfl;have M:=aB p;have K:=aB r;clear O ar F G E i p aD r D T au am ad h J;as_aux_lemma=>
     go_wp2_with (first|(go_at_call 44;refine(CS.u _).mono ?_;rintro e w5 ⟨rfl,o⟩;have g:=aB (t.u.aE o);have A:=g.u.dS.cell 1 (by simp);simp only[TG,TI] at A;rw[<-aw.u] at A;have aU:=g.u.eW.row.lt;have q2:=kW.cell g.u.on s[d+1].toNat (by omega);clear o)|(go_at_call 47;refine(vA _ _).mono ?_;rintro e w7 ⟨rfl,rfl⟩)|(at_builtin;refine Uo _ rfl (.tmp 144) (.tmp 156) 41 rfl (xb+1) 3 i0 (.int .i64 0) 1 8 Wb a0.u a4.u a3.u a7.u rfl (by decide) _ st.length _ rfl (T_ g.u.ju _) ⟨_,0,none⟩ 1 1 [_] rfl rfl (gw _ _ [_]) (uL _) (by unfold maxLen;omega) (by omega) (by rw[TM];omega) ?_;intro v1 w1 af ak aQ;have ab:=aB (g.u.push ak _ aA.u af);clear af ak aQ)|fail)
     go_roundw
     case rel=>exact⟨d+2,_,fl,X,V,Q,by go_num,M,K,ab,an,by omega⟩
     case measure=>simp only[aS];omega
   ·have i:ee (Pl.opAt c d)=1:=by rw[h];rfl
    have G:(a_ c d).next=d+1:=by show d+_=_;rw[i]
    have J:(a_ c d).op=5:=h;have U:=D.cd.2;rw[i] at U;have aV:s[d].toNat=5:=by rw[<-O];exact h
    have CS:Hid (∀W,Calls prog 44 #[.int .i64 5] W λe j=>e= .returned (.int .i64 1)/\Below W.heap.size W j):=λW=>oa 5 (by omega) W;have aT:=D.iK;rw[h] at aT;have a5:2<=st.length:=aT;obtain⟨aa,x,y,ai⟩:=Pc a5;have F:dG ss l (a_ c d) st fl X=(d+1,aa++[y||x],fl,X):=by unfold dG;rw[J,G,ai,Pq,NN,NK];rfl
    rw[F] at p r;obtain⟨m,C⟩:∃m,st.length=m+2:=⟨st.length-2,by omega⟩;have aq:aa.length=m:=by rw[ai] at C;simp at C;exact C
    obtain⟨H,hg⟩:∃H,sa=some ⟨H,0,none⟩:=by obtain⟨H,cs,he,-⟩:=d_ t.u.ju (by omega);cases he;exact⟨H,rfl⟩
    subst hg;have bu:=wU t.u.ju;have ba:Hid (∀W,fe w0 pb xb ob ap cp c ss (.slice ae l.length ce) V Q (.slice (some ⟨H,0,none⟩) (m+2) sc) st fl X W->W.cell? ⟨H,m,none⟩=some (iw x)/\W.cell? ⟨H,m+1,none⟩=some (iw y)):=λW hM=>by have hs:=hM.ju;rw[C,ai] at hs;have c0:=kI hs m (by simp;omega);have c1:=kI hs (m+1) (by simp;omega);rw[c0,c1];simp[aq,List.getElem_append_right]
    have cf:Hid (∀W,fe w0 pb xb ob ap cp c ss (.slice ae l.length ce) V Q (.slice (some ⟨H,0,none⟩) (m+2) sc) st fl X W->∀aN u,(aa.map iw)[aN]?=some u->W.cell? ((⟨H,0,none⟩:Addr).add aN)=some u):=λW hM aN u hj=>by
     have hs:=hM.ju;rw[C,ai] at hs;have cr:aN<aa.length:=by have:=(TZ.1 hj).1;simpa using this
     have c0:=kI hs aN (by simp;omega);rw[show (⟨H,0,none⟩:Addr).add aN=⟨H,aN,none⟩ from ji H aN,c0,<-hj];simp[cr]
    have a6:Hid (∀W Z v',fe w0 pb xb ob ap cp c ss (.slice ae l.length ce) V Q (.slice (some ⟨H,0,none⟩) (m+2) sc) st fl X W->W.grownBy Z none->∀B,xb+1<=B->Z.ownsRow B 3 1 v' (m+1) (aa.map iw++[iw (y||x)])->fe w0 pb xb ob ap cp c ss (.slice ae l.length ce) V Q v' (aa++[y||x]) fl X Z):=λW Z v' hM hg B hB O=>hM.cF hg (.inl rfl) (pZ (by simpa [aq] using O) hB);have cg:Hid ((aa.map iw).length=m):=by show _=_;rw[TR,aq]
    rw[C] at t kl i16 bu;have M:=aB p;have K:=aB r;clear O F G i p aD r D T au am ad h J aT a5 ai aq;generalize bm:st.length=N at*;subst C;have ca:(m:Int)<=16:=by omega
    have cw:m<=sc:=by omega
    have ch:(m:Int)<=(sc:Int):=by omega
    clear bm;cases x<;>cases y
    all_goals simp only[XD,Bool.or_true] at M K a6
    all_goals as_aux_lemma=>
     go_wp2_with (first|(go_at_call 44;refine(CS.u _).mono ?_;rintro e w5 ⟨rfl,o⟩;have g:=aB (t.u.aE o);have A:=g.u.dS.cell 1 (by simp);simp only[TG,TI] at A;rw[<-aw.u] at A;have aU:=g.u.eW.row.lt;obtain⟨z0,z1⟩:=ba.u _ g.u;unfold iw at z0 z1;try simp only[Vn] at z0 z1;try simp only[Vk,Uj] at z0 z1;clear o)|(go_at_call 47;refine(vA _ _).mono ?_;rintro e w7 ⟨rfl,rfl⟩)|(at_builtin;refine wpList_append_grows _ rfl (.tmp 179) (.tmp 181) 41 rfl 3 i0 (.int .i64 0) 1 8 Wb a0.u a4.u a3.u a7.u rfl (by decide) _ m m (aa.map iw) rfl (λh=>by cases h) (by rw[cg.u];omega) (λb hb=>by cases hb;exact cf.u _ (g.u.aE (aj _ _))) ⟨_,0,none⟩ 1 1 [_] rfl rfl (gw _ _ [_]) (uL _) (by omega) (by unfold maxLen;omega) (by omega) ?_;intro v1 w1 af ak;have ab:=aB (a6.u _ _ _ (g.u.aE (aj _ _)) ak _ (by rw[TM];omega) af);clear af ak)|fail)
     go_roundw
     case rel=>exact⟨d+1,_,fl,X,V,Q,by go_num,M,K,ab,an,by omega⟩
     case measure=>simp only[aS];omega
   ·have i:ee (Pl.opAt c d)=3:=by rw[h];rfl
    have G:(a_ c d).next=d+3:=by show d+_=_;rw[i]
    have J:(a_ c d).op=6:=h;have U:=D.cd.2;rw[i] at U;have aV:s[d].toNat=6:=by rw[<-O];exact h
    have CS:Hid (∀W,Calls prog 44 #[.int .i64 6] W λe j=>e= .returned (.int .i64 3)/\Below W.heap.size W j):=λW=>oa 6 (by omega) W;have E:(a_ c d).first=two c (d+1):=by unfold a_;simp[i]
    have aT:=D.iK;rw[h] at aT;have a5:1<=st.length:=aT;obtain⟨aa,y,ai⟩:=O' a5;have F:dG ss l (a_ c d) st fl X=(if y then d+3 else d+3+two c (d+1),aa,fl,X):=by unfold dG;rw[J,G,E,ai];simp
    rw[F] at p r;obtain⟨u1,ah⟩:∃q:Nat,q=d+1:=⟨_,rfl⟩;have a8:Hid (∀W,Calls prog 46 #[.string s,.int .i64 (u1:Int)] W λe j=>e= .returned (.int .i64 (two c (d+1)))/\W.drew=j):=λW=>by have:=ng s u1 W (by omega) (by omega);rw[<-T,ah] at this;rw[ah];exact this
    have bH:IntKind.i64.wrap ((d:Int)+1)=(u1:Int):=by rw[wrap_small (by omega) (by omega),ah];rfl
    clear ah;generalize aO:two c (d+1)=n at*;have cB :n<=65535:=by rw[<-aO];exact Q7 c (d+1)
    obtain⟨m,C⟩:∃m,st.length=m+1:=⟨st.length-1,by omega⟩;have aq:aa.length=m:=by rw[ai] at C;simp at C;exact C
    obtain⟨H,hg⟩:∃H,sa=some ⟨H,0,none⟩:=by obtain⟨H,cs,he,-⟩:=d_ t.u.ju (by omega);cases he;exact⟨H,rfl⟩
    subst hg;have bu:=wU t.u.ju;have ba:Hid (∀W,fe w0 pb xb ob ap cp c ss (.slice ae l.length ce) V Q (.slice (some ⟨H,0,none⟩) (m+1) sc) st fl X W->W.cell? ⟨H,m,none⟩=some (iw y)):=λW hM=>by have hs:=hM.ju;rw[C,ai] at hs;have c0:=kI hs m (by simp;omega);rw[c0];simp[aq,List.getElem_append_right]
    have a6:Hid (∀W,fe w0 pb xb ob ap cp c ss (.slice ae l.length ce) V Q (.slice (some ⟨H,0,none⟩) (m+1) sc) st fl X W->fe w0 pb xb ob ap cp c ss (.slice ae l.length ce) V Q (.slice (some ⟨H,0,none⟩) m sc) aa fl X W):=λW hM=>by
     have hs:=hM.ju;rw[C,ai] at hs;have h2:=GH hs m (by omega);refine hM.cF (World.grownBy.refl W none) (.inl rfl) ?_;rw[aq];have e:((aa++[y]).map iw).take m=aa.map iw:=by rw[T',<-aq,<-TR iw,YF]
     rw[e] at h2;exact h2
    rw[C] at t kl i16 bu;have M:=aB p;have K:=aB r;clear O F G E i p aD r D T au am ad h J aT a5 ai aq aO;generalize bm:st.length=N at*;subst C;have ca:(m:Int)<=17:=by omega
    have cw:m<=sc:=by omega
    have ch:(m:Int)<=(sc:Int):=by omega
    clear bm;cases y;all_goals try simp only[Vn] at M K
    all_goals try simp only[Vk,Uj] at M K
    ·as_aux_lemma=>
      go_wp2_with (first|(go_at_call 44;refine(CS.u _).mono ?_;rintro e w5 ⟨rfl,o⟩;have g:=aB (t.u.aE o);have A:=g.u.dS.cell 1 (by simp);simp only[TG,TI] at A;rw[<-aw.u] at A;have aU:=g.u.eW.row.lt;have z0:=ba.u _ g.u;unfold iw at z0;try simp only[Vn] at z0;try simp only[Vk,Uj] at z0;clear o)|(go_at_call 46;refine(a8.u _).mono ?_;rintro e w7 ⟨rfl,rfl⟩)|fail)
      have ab:=aB (a6.u _ (g.u.aE (TF _ w5).drew));go_roundw
      case rel=>exact⟨d+3+n,aa,fl,X,V,Q,by go_num,M,K,ab,an,by omega⟩
      case measure=>simp only[aS];omega
    ·as_aux_lemma=>
      go_wp2_with (first|(go_at_call 44;refine(CS.u _).mono ?_;rintro e w5 ⟨rfl,o⟩;have g:=aB (t.u.aE o);have A:=g.u.dS.cell 1 (by simp);simp only[TG,TI] at A;rw[<-aw.u] at A;have aU:=g.u.eW.row.lt;have z0:=ba.u _ g.u;unfold iw at z0;try simp only[Vn] at z0;try simp only[Vk,Uj] at z0;clear o)|fail)
      have ab:=aB (a6.u _ g.u);go_roundw
      case rel=>exact⟨d+3,aa,fl,X,V,Q,by go_num,M,K,ab,an,by omega⟩
      case measure=>simp only[aS];omega
   ·have i:ee (Pl.opAt c d)=3:=by rw[h];rfl
    have G:(a_ c d).next=d+3:=by show d+_=_;rw[i]
    have J:(a_ c d).op=7:=h;have U:=D.cd.2;rw[i] at U;have aV:s[d].toNat=7:=by rw[<-O];exact h
    have CS:Hid (∀W,Calls prog 44 #[.int .i64 7] W λe j=>e= .returned (.int .i64 3)/\Below W.heap.size W j):=λW=>oa 7 (by omega) W;have E:(a_ c d).first=two c (d+1):=by unfold a_;simp[i]
    have al:=D.fG.2.1 (.inr J);have F:dG ss l (a_ c d) st fl X=(d+3,st,fl,ia l X (ss.getD (two c (d+1)) [])):=by unfold dG;rw[J,G,E];rfl
    rw[F] at p r;rw[E] at al;obtain⟨u1,ah⟩:∃q:Nat,q=d+1:=⟨_,rfl⟩;have a8:Hid (∀W,Calls prog 46 #[.string s,.int .i64 (u1:Int)] W λe j=>e= .returned (.int .i64 (two c (d+1)))/\W.drew=j):=λW=>by have:=ng s u1 W (by omega) (by omega);rw[<-T,ah] at this;rw[ah];exact this
    have bH:IntKind.i64.wrap ((d:Int)+1)=(u1:Int):=by rw[wrap_small (by omega) (by omega),ah];rfl
    clear ah;generalize aO:two c (d+1)=n at*;have a1:ss.getD n []=ss[n]:=by rw[TO,TH al];rfl
    rw[a1] at p r;obtain⟨bs,rfl,-⟩:=t.u.cP (by omega);have CG:Hid (∀W,fe w0 pb xb ob (some ⟨bs,0,none⟩) cp c ss (.slice ae l.length ce) V Q (.slice sa st.length sc) st fl X W->Calls prog 49 #[.pointer (some ⟨xb,0,none⟩),.string ⟨ss[n].toArray⟩] W λe j=>(∃v,e= .returned v)/\∃bq bo,fe w0 pb xb ob (some ⟨bs,0,none⟩) cp c ss (.slice ae l.length ce) bq bo (.slice sa st.length sc) st fl (ia l X ss[n]) j):=λW C=>by have s0:=aW.u.size;have s1:=C.hp;have s2:=C.hw;have s3:=C.eW.row.lt;refine(B8 ss[n] S l L (xb+1) xb be oe ce ae V Q X W C.eW b_.u (HE.u.aL ((aW.u.mono hL).trans (C.aL.mono (by omega)))) (by omega) an.u hS bM.u (by omega) cn (by omega) co.u).mono ?_;rintro e j ⟨h1,bq,bo,h2,h3,h4⟩;exact⟨h1,bq,bo,C.xv h2 h3 h4⟩
    have cu:=aB (an.u.xv (c:=ss[n]) bM.u);have cx:=ET l X ss[n];generalize ia l X ss[n]=Y at*;have M:=aB p;have K:=aB r;clear O F G E i p aD r D T au am ad h J aO a1;as_aux_lemma=>
     go_wp2_with (first|(go_at_call 44;refine(CS.u _).mono ?_;rintro e w5 ⟨rfl,o⟩;have g:=aB (t.u.aE o);have A:=g.u.dS.cell 1 (by simp);simp only[TG,TI] at A;rw[<-aw.u] at A;have aU:=g.u.eW.row.lt;have q0:=g.u.dS.cell 0 (by simp);simp only[TG] at q0;obtain⟨bT,a2,aC⟩:=g.u.cP (by omega);cases a2;have q2:=aC n al;clear aC;clear o)|fail)
     have i1:(n:Int)<(ss.length:Int):=by omega
     have i3:(0:Int)<=(n:Int):=by omega
     go_region_held3 (λj=>j.cell? ⟨pb,0,none⟩=some (.slice (some ⟨bs,0,none⟩) ss.length cp)/\j.cell? ⟨pb,1,none⟩=some (.string s)/\j.cell? ⟨bs,n,none⟩=some (.string ⟨ss[n].toArray⟩)) (go_keep) (first|(go_at_call 46;refine(a8.u _).mono ?_;rintro e w6 ⟨rfl,rfl⟩)|(go_at_call 49;refine(CG.u _ ?_).mono ?_;exact g.u.aE ((TF _ w5).drew).drew;rintro e w6 ⟨⟨v6,rfl⟩,cy,cC,ao⟩;have aM:=aB ao;have y0:=ao.dS.cell 0 (by simp);have y1:=ao.dS.cell 1 (by simp);simp only[TG,TI] at y0 y1;rw[<-aw.u] at y1;obtain⟨cq,bt,aZ⟩:=ao.cP (by omega);cases bt;have y2:=aZ n al;clear aZ ao))
     all_goals go_wp2_with fail
     all_goals go_roundw
     all_goals first
      |exact⟨d+3,st,fl,Y,_,_,by go_num,M,K,aM,cu,by omega⟩
      |(simp only[aS];omega)
   ·have i:ee (Pl.opAt c d)=2:=by rw[h];rfl
    have G:(a_ c d).next=d+2:=by show d+_=_;rw[i]
    have E:(a_ c d).first=Pl.opAt c (d+1):=by unfold a_;simp[i]
    have F:dG ss l (a_ c d) st fl X=(d+2,st,nJ fl (Pl.opAt c (d+1)),X):=by unfold dG;rw[show (a_ c d).op=8 from h,G,E];rfl
    rw[F] at p r;have U:=D.cd.2;rw[i] at U;have a9:d+1<s.size:=by rw[aF];omega
    have ar:=oj s (d+1) a9;rw[<-T] at ar;have hi:=uN c (d+1);have aV:s[d].toNat=8:=by rw[<-O];exact h
    have CS:Hid (∀W,Calls prog 44 #[.int .i64 8] W λe j=>e= .returned (.int .i64 2)/\Below W.heap.size W j):=λW=>oa 8 (by omega) W;rw[ar] at p r hi;have t2:(d:Int)+1<(s.size:Int):=by omega
    have t3:((s[d+1].toNat:Nat):Int)<256:=by omega
    have M:=aB p;have K:=aB r;clear O ar F G E i p aD r U D T au am ad h;as_aux_lemma=>
     go_wp2_with (first|(go_at_call 44;refine(CS.u _).mono ?_;rintro e w5 ⟨rfl,o⟩;have g:=aB (t.u.aE o);have A:=g.u.dS.cell 1 (by simp);have q2:=g.u.on.cell s[d+1].toNat (by omega);have q3:=aG.frozen g.u.on s[d+1].toNat;simp only[TG,TI] at A;rw[<-aw.u] at A;clear o)|fail)
     have ab:=aB (g.u.mark s[d+1].toNat);go_wp2_with fail
     go_roundw
     case rel=>exact⟨d+2,st,nJ fl s[d+1].toNat,X,V,Q,by go_num,M,K,ab,an,by omega⟩
     case measure=>simp only[aS];omega
  ·have bP:=aB (ad.u.stop bn);obtain⟨ac,cc,cj⟩:=t.u.eW.aH.shape;subst cj;have CT:=aB (Cf _ _ _ _ _ _ _ _ _ t.u.eW (TT an.u.len hS));generalize cz:(⟨c.toArray⟩:az)=cb at*;by_cases hp:d<c.length
   ·have t1:(d:Int)<(cb.size:Int):=by rw[aF];omega
    have t2:¬X.exit=0:=λe=>bn ⟨hp,e⟩;clear aF;go_wp2_with (first|(go_at_call 50;refine CT.u.mono ?_;rintro e w5 ⟨⟨vr,rfl,aR⟩,o⟩;obtain⟨av,cv,gv,bv,-⟩:=aR.rd;subst bv;have I:=Hf H0.u t.u o;have bk:=aB (BL bd.u HY.u bR.u bP.u H0.u aW.u t.u aR o);have r0:=I.cell 0 (by simp);have r1:=I.cell 1 (by simp);have r2:=I.cell 2 (by simp);have r3:=I.cell 3 (by simp);have f0:=I.frozen 0;have f1:=I.frozen 1;have f2:=I.frozen 2;have f3:=I.frozen 3;simp only[TG,TI] at r0 r1 r2 r3;have bi:=aB I;clear I o aR)|fail)
    have hR:=(((bi.u.set 0 (.slice ac X.aH.length cc)).set 1 (.slice av (eX X.aX).length cv)).set 2 (.int .i64 X.exit)).set 3 (.int .i64 X.aP);have o0:=hR.cell 0 (by simp);have o1:=hR.cell 1 (by simp);have o2:=hR.cell 2 (by simp);have o3:=hR.cell 3 (by simp);simp only[VZ,VM,TG,TI] at o0 o1 o2 o3;refine Ua (v:= .tuple #[.agg #[.slice ac X.aH.length cc,.slice av (eX X.aX).length cv,.int .i64 X.exit,.int .i64 X.aP],.int .i64 0]) ?_ rfl bk.u;simp[results,results14,go_sem,o0,o1,o2,o3]
   ·have t1:¬(d:Int)<(cb.size:Int):=by rw[aF];omega
    clear aF;go_wp2_with (first|(go_at_call 50;refine CT.u.mono ?_;rintro e w5 ⟨⟨vr,rfl,aR⟩,o⟩;obtain⟨av,cv,gv,bv,-⟩:=aR.rd;subst bv;have I:=Hf H0.u t.u o;have bk:=aB (BL bd.u HY.u bR.u bP.u H0.u aW.u t.u aR o);have r0:=I.cell 0 (by simp);have r1:=I.cell 1 (by simp);have r2:=I.cell 2 (by simp);have r3:=I.cell 3 (by simp);have f0:=I.frozen 0;have f1:=I.frozen 1;have f2:=I.frozen 2;have f3:=I.frozen 3;simp only[TG,TI] at r0 r1 r2 r3;have bi:=aB I;clear I o aR)|fail)
    have hR:=(((bi.u.set 0 (.slice ac X.aH.length cc)).set 1 (.slice av (eX X.aX).length cv)).set 2 (.int .i64 X.exit)).set 3 (.int .i64 X.aP);have o0:=hR.cell 0 (by simp);have o1:=hR.cell 1 (by simp);have o2:=hR.cell 2 (by simp);have o3:=hR.cell 3 (by simp);simp only[VZ,VM,TG,TI] at o0 o1 o2 o3;refine Ua (v:= .tuple #[.agg #[.slice ac X.aH.length cc,.slice av (eX X.aX).length cv,.int .i64 X.exit,.int .i64 X.aP],.int .i64 0]) ?_ rfl bk.u;simp[results,results14,go_sem,o0,o1,o2,o3]
end
