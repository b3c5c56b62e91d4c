/- . -/
import Derived.Test.YtjelacjggijmfaaGreatDoorYGB4
set_option maxHeartbeats 1000000
namespace Go.Proofs.YtjelacjggijmfaaGreatDoor
open Pl Mk Cp Proofs.Tryz
open RowKit MapKept ChangeMaps Maps
section
variable {W X:ax} {F G:dy} {c:Ad} {rb:Nat->Nat} {s:St}
theorem Iu (h:bu W F c rb s)(i:s.aV.length<4294967296)(k:ag)(v:Nv):∃a,(Instr.mapUpdate 137 (.map (some c.nm)) (.string ⟨k.toArray⟩) (.agg #[.string ⟨v.aT.toArray⟩,.bool v.mQ])).run prog W= .ok () a /\bu a F c rb {s with aV:=jX s.aV k v}/\Fr F F W a :=by obtain⟨a,e,b,g⟩:=h.aV.put Xx T0 (by unfold iE maxLen;rw[TR];omega) k (kD v);rw[Ey] at b;obtain⟨d,f⟩:=h.P9 g b;exact⟨a,e,d,f⟩
theorem yT (a:ag)(h:bu W F c rb s)(j:kT s.aV)(f:c_ W)(i:a.length<=1073741824):
 Calls prog 182 #[.pointer (some ⟨c.rd,0,none⟩),.string ⟨a.toArray⟩] W λe b=>e= .returned (.tuple #[.string ⟨(dq s.aV a).bE.toArray⟩,.int .i64 ((dq s.aV a).er:Int)])/\Below W.heap.size W b :=by obtain⟨d,l,-⟩:=h.cV;refine(JY c.rd c.bb c.nm c.bt c.pb d _ _ _ _ s.first a s.aV W h.row l h.aV j f i).mono ?_;rintro e w ⟨m,k,rfl,-,g⟩;rw[GW k];exact⟨rfl,g⟩
theorem KT (n:Ln)(h:bu W F c rb s)(hs:kT s.aV)(R:s.aV.length<4294967296)(hg:c_ W)(V:n.right.length<=1073741824):
 Calls prog 139 #[.pointer (some ⟨c.rd,0,none⟩),dx n] W λe C=>e= .returned (.int .i64 ((gW s n).1:Int))/\bu C F c rb (gW s n).2/\Fr F F W C :=by
 obtain⟨d,b,L,a⟩:=n;obtain⟨vp,r,-⟩:=h.cV;have J:=h.row.cell? (i:=1) rfl;have S:=aG.cell? (i:=0) r rfl;have l1:c.rd<W.heap.size:=h.row.lt;have l2:c.bb<W.heap.size:=aG.lt r;by_cases q:b=4
 ·have b4:((b:Int)==4)=true:=by rw[UR];omega
  have o:gW s ⟨d,b,L,a⟩=(0,{s with aV:=jX s.aV L ⟨a,true⟩}):=by unfold gW;rw[TP q]
  rw[o];have w:Below W.heap.size W (((W.alloc (.cells #[.int .i64 d,.int .i64 b,.string ⟨L.toArray⟩,.string ⟨a.toArray⟩] 164)).alloc (.cells #[.string ⟨a.toArray⟩,.bool true] 307)).drew):=(((aj W _).alloc (by simp) _).drew);obtain⟨w',x,l,m⟩:=Iu (h.aE w) R L ⟨a,true⟩;have z:=aB l;have v:=aB ((Fr.aE w).trans m);simp only at x;clear l m h o q w r;go_enter func139,ntmps139;unfold dx;go_wp2_with fail
  go_region
  all_goals go_wp2_with fail
  all_goals go_ret
  all_goals exact⟨rfl,z.u,v.u⟩
 ·have b4:((b:Int)==4)=false:=by rw[TQ];omega
  have k:Below W.heap.size W ((W.alloc (.cells #[.int .i64 d,.int .i64 b,.string ⟨L.toArray⟩,.string ⟨a.toArray⟩] 164)).alloc (.cells #[.string ⟨a.toArray⟩,.bool false] 307)):=(aj W _).alloc (by simp) _;have o:gW s ⟨d,b,L,a⟩=((dq s.aV a).er,{s with aV:=jX s.aV L ⟨(dq s.aV a).bE,false⟩}):=by unfold gW;rw[TJ q]
  rw[o];have H:aG ((W.alloc (.cells #[.int .i64 d,.int .i64 b,.string ⟨L.toArray⟩,.string ⟨a.toArray⟩] 164)).alloc (.cells #[.string ⟨a.toArray⟩,.bool false] 307)) W.heap.size 164 [.int .i64 d,.int .i64 b,.string ⟨L.toArray⟩,.string ⟨a.toArray⟩]:=(aG.bA W 164 [_,_,_,_]).alloc _;have t:aG ((W.alloc (.cells #[.int .i64 d,.int .i64 b,.string ⟨L.toArray⟩,.string ⟨a.toArray⟩] 164)).alloc (.cells #[.string ⟨a.toArray⟩,.bool false] 307)) (W.heap.size+1) 307 [.string ⟨a.toArray⟩,.bool false]:=by have:=aG.bA (W.alloc (.cells #[.int .i64 d,.int .i64 b,.string ⟨L.toArray⟩,.string ⟨a.toArray⟩] 164)) 307 [.string ⟨a.toArray⟩,.bool false];rw[TM] at this;exact this
  have Q:=aB (yT a (h.aE k) hs (hg.aE k) V);have O:Hid (∀j,Below ((W.alloc (.cells #[.int .i64 d,.int .i64 b,.string ⟨L.toArray⟩,.string ⟨a.toArray⟩] 164)).alloc (.cells #[.string ⟨a.toArray⟩,.bool false] 307)).heap.size ((W.alloc (.cells #[.int .i64 d,.int .i64 b,.string ⟨L.toArray⟩,.string ⟨a.toArray⟩] 164)).alloc (.cells #[.string ⟨a.toArray⟩,.bool false] 307)) j->
   aG j (W.heap.size+1) 307 [.string ⟨a.toArray⟩,.bool false]/\∃f,f=j.setCell ⟨W.heap.size+1,0,none⟩ (.string ⟨(dq s.aV a).bE.toArray⟩)/\aG f (W.heap.size+1) 307 [.string ⟨(dq s.aV a).bE.toArray⟩,.bool false]/\aG f W.heap.size 164 [.int .i64 d,.int .i64 b,.string ⟨L.toArray⟩,.string ⟨a.toArray⟩]/\bu f F c rb s/\Fr F F W f):=λj g=>by
   have e1:=k.size;have hb:=k.trans (g.mono e1);have N:=hb.setCell (p:=⟨W.heap.size+1,0,none⟩) (by simp) (.string ⟨(dq s.aV a).bE.toArray⟩);exact⟨t.aE g,_,rfl,(t.aE g).set 0 _,(H.aE g).eH (by omega) _ _,h.aE N,Fr.aE N⟩
  clear o q r h H t k;go_enter func139,ntmps139;unfold dx;generalize dq s.aV a=T at*;go_wp2_with (first|(go_at_call 182;refine Q.u.mono ?_;clear Q;rintro e j ⟨rfl,g⟩;obtain⟨y,f,M,K,D,P,B⟩:=O.u j g;have y0:=y.cell? (i:=0) rfl;have Y:=y.frozen 0;have aa:=aB M;have I:=aB K;have Z:=aB D;have A:=aB P;have U:=aB B;clear y M K D P B g J S)|fail)
  rw[<-aa.u];obtain⟨ab,E,-⟩:=A.u.cV;have J:=A.u.row.cell? (i:=1) rfl;have S:=aG.cell? (i:=0) E rfl;have v0:=I.u.cell? (i:=0) rfl;have v1:=I.u.cell? (i:=1) rfl;have l3:=Z.u.cell? (i:=2) rfl;obtain⟨w',x,l,m⟩:=Iu (A.u.aE (TF _ f).drew) R L ⟨T.bE,false⟩;have z:=aB l;have v:=aB ((U.u.trans (Fr.aE (TF _ f).drew)).trans m);simp only at x;clear l m y0 Y O E;go_region
  all_goals go_wp2_with fail
  all_goals go_ret
  all_goals exact⟨rfl,z.u,v.u⟩
end
