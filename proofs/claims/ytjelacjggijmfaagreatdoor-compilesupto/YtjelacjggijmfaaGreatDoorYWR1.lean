/- . -/
import Derived.Test.YtjelacjggijmfaaGreatDoorYSZ
set_option maxHeartbeats 1000000
set_option maxRecDepth 100000
namespace Go.Proofs.YtjelacjggijmfaaGreatDoor
open Pl Mk Cp Proofs.Tryz
open RowKit MapKept ChangeMaps Maps
def kL (a:List ag):df:=a.zipIdx.map λx=>(x.1,.int .i64 x.2)
structure dK (W:ax)(B wb nb:Nat)(w:Wr)(vs vc:ay):Prop where
 row:aG W wb 281 [.map (some nb),vs,vc,.bool w.kr]
 nK:bC W nb (kL w.aY)
 aY:W.ownsRow B 9 1 vs w.aY.length (w.aY.map aK)
 bh:W.ownsRow B 5 1 vc w.bh.length (Lib.byteCells w.bh)
 wB:wb<B
 nB:nb<B
theorem Tryz.uR:(Tryz.prog.info? 5).map (λa=>(a.zero,a.size,a.bytes))=some (some (.int .u8 0),1,1):=by kernel_rfl
theorem QP (w:ax):(Instr.makeSlice 126 (.int .i64 0) (.int .i64 0)).run prog w= .ok (.slice (some ⟨w.heap.size,0,none⟩) 0 0) (w.alloc (.cells #[] 5)):=by have h:=XE (P:=prog) 126 5 (.int .u8 0) 1 Ui Tryz.uR rfl .i64 .i64 0 (by omega) (by omega) w;rw[wP] at h;exact h
theorem Q0 (w:ax):(Instr.makeSlice 126 (.int .i64 1) (.int .i64 1)).run prog w= .ok (.slice (some ⟨w.heap.size,0,none⟩) 1 1) (w.alloc (.cells #[.int .u8 0] 5)):=by have h:=XE (P:=prog) 126 5 (.int .u8 0) 1 Ui Tryz.uR rfl .i64 .i64 1 (by omega) (by omega) w;rw[wP] at h;exact h
theorem QX (w:ax):(Instr.makeSlice 126 (.int .i64 2) (.int .i64 2)).run prog w= .ok (.slice (some ⟨w.heap.size,0,none⟩) 2 2) (w.alloc (.cells #[.int .u8 0,.int .u8 0] 5)):=by have h:=XE (P:=prog) 126 5 (.int .u8 0) 1 Ui Tryz.uR rfl .i64 .i64 2 (by omega) (by omega) w;rw[wP] at h;exact h
theorem SV (n:Nat):((n:Int) !=0)=gT n 0:=by unfold gT;rw[U3];simp;omega
theorem SU (n:Nat):((n:Int)/256 !=0)=gT n 1:=by unfold gT;rw[U3];simp;omega
theorem SQ (n:Nat):((n:Int)/65536 !=0)=gT n 2:=by unfold gT;rw[U3];simp;omega
theorem sU {W:ax}{a:Nat}{v0 v1 d:ay}{f:Bool}(h:aG W a 281 [v0,v1,d,.bool f])(b :Bool)(c:List ay):
 aG ((W.setCell ⟨a,3,none⟩ (.bool b)).alloc (.cells c.toArray 5)) W.heap.size 5 c/\aG ((W.setCell ⟨a,3,none⟩ (.bool b)).alloc (.cells c.toArray 5)) a 281 [v0,v1,d,.bool b]/\Tn (λk=>k=a) W ((W.setCell ⟨a,3,none⟩ (.bool b)).alloc (.cells c.toArray 5)):=by
 have g:(W.setCell ⟨a,3,none⟩ (.bool b)).heap.size=W.heap.size:=by simp
 have e:=aG.bA (W.setCell ⟨a,3,none⟩ (.bool b)) 5 c;rw[g] at e;exact⟨e,(h.set 3 (.bool b)).alloc _,(Tn.set (p:=λk=>k=a) W ⟨a,3,none⟩ _ rfl).trans (Tn.aE (aj _ _))⟩
theorem Sa (n:Nat):Lib.byteCells (dc n 0)=[]:=by unfold Lib.byteCells dc;simp
theorem Lz (a n:Nat)(v0 v1 j:ay)(f:Bool)(W:ax)(h:aG W a 281 [v0,v1,j,.bool f])(_hn:n<2147483648):
 Calls prog 148 #[.pointer (some ⟨a,0,none⟩),.int .i64 n,.int .i64 0] W λe b=>∃N,e= .returned (.slice (some ⟨N,0,none⟩) 0 0)/\aG b N 5 (Lib.byteCells (dc n 0))/\aG b a 281 [v0,v1,j,.bool (f||gT n 0)]/\W.heap.size<=N/\Tn (λk=>k=a) W b :=by
 have q:=h.cell? (i:=3) rfl;have p:=h.frozen 3;have r:=QP;have m:=h.lt;have o:¬a=W.heap.size:=by omega
 have l:=aB h;rw[Sa];clear h;cases f with
 |false=>
  go_enter YI,XY;go_wp2_with fail
  refine WX 1 ?_;rw[Wl];go_wp2_with fail
  go_ret;obtain⟨c,g,d⟩:=sU l.u ((n:Int) !=0) [];exact⟨W.heap.size,rfl,c,by rw[VV,<-SV];exact g,TD _,d⟩
 |true=>
  go_enter YI,XY;go_wp2_with fail
  refine WX 1 ?_;rw[Wl];go_wp2_with fail
  go_ret;obtain⟨c,g,d⟩:=sU l.u true [];exact⟨W.heap.size,rfl,c,by rw[aaA];exact g,TD _,d⟩
theorem Sd (n:Nat):Lib.byteCells (dc n 1)=[.int .u8 ((n:Int) % 256)]:=by unfold Lib.byteCells dc;simp
theorem Lj (a n:Nat)(v0 v1 j:ay)(f:Bool)(W:ax)(h:aG W a 281 [v0,v1,j,.bool f])(_hn:n<2147483648):
 Calls prog 148 #[.pointer (some ⟨a,0,none⟩),.int .i64 n,.int .i64 1] W λe b=>∃N,e= .returned (.slice (some ⟨N,0,none⟩) 1 1)/\aG b N 5 (Lib.byteCells (dc n 1))/\aG b a 281 [v0,v1,j,.bool (f||gT n 1)]/\W.heap.size<=N/\Tn (λk=>k=a) W b :=by
 have q:=h.cell? (i:=3) rfl;have p:=h.frozen 3;have r:=Q0;have m:=h.lt;have o:¬a=W.heap.size:=by omega
 have l:=aB h;rw[Sd];clear h;cases f with
 |false=>
  go_enter YI,XY;go_wp2_with fail
  refine WX 2 ?_;rw[Wl];go_wp2_with fail
  rw[Wl];go_wp2_with fail
  go_ret;obtain⟨c,g,d⟩:=sU l.u ((n:Int)/256 !=0) [.int .u8 ((n:Int) % 256)];exact⟨W.heap.size,rfl,c,by rw[VV,<-SU];exact g,TD _,d⟩
 |true=>
  go_enter YI,XY;go_wp2_with fail
  refine WX 2 ?_;rw[Wl];go_wp2_with fail
  rw[Wl];go_wp2_with fail
  go_ret;obtain⟨c,g,d⟩:=sU l.u true [.int .u8 ((n:Int) % 256)];exact⟨W.heap.size,rfl,c,by rw[aaA];exact g,TD _,d⟩
theorem Sr (n:Nat):Lib.byteCells (dc n 2)=[.int .u8 ((n:Int)/256 % 256),.int .u8 ((n:Int) % 256)]:=by unfold Lib.byteCells dc;simp
theorem Le (a n:Nat)(v0 v1 j:ay)(f:Bool)(W:ax)(h:aG W a 281 [v0,v1,j,.bool f])(_hn:n<2147483648):
 Calls prog 148 #[.pointer (some ⟨a,0,none⟩),.int .i64 n,.int .i64 2] W λe b=>∃N,e= .returned (.slice (some ⟨N,0,none⟩) 2 2)/\aG b N 5 (Lib.byteCells (dc n 2))/\aG b a 281 [v0,v1,j,.bool (f||gT n 2)]/\W.heap.size<=N/\Tn (λk=>k=a) W b :=by
 have q:=h.cell? (i:=3) rfl;have p:=h.frozen 3;have r:=QX;have m:=h.lt;have o:¬a=W.heap.size:=by omega
 have l:=aB h;rw[Sr];clear h;cases f with
 |false=>
  go_enter YI,XY;go_wp2_with fail
  refine WX 3 ?_;rw[Wl];go_wp2_with fail
  rw[Wl];go_wp2_with fail
  rw[Wl];go_wp2_with fail
  go_ret;obtain⟨c,g,d⟩:=sU l.u ((n:Int)/65536 !=0) [.int .u8 ((n:Int)/256 % 256),.int .u8 ((n:Int) % 256)];exact⟨W.heap.size,rfl,c,by rw[VV,<-SQ];exact g,TD _,d⟩
 |true=>
  go_enter YI,XY;go_wp2_with fail
  refine WX 3 ?_;rw[Wl];go_wp2_with fail
  rw[Wl];go_wp2_with fail
  rw[Wl];go_wp2_with fail
  go_ret;obtain⟨c,g,d⟩:=sU l.u true [.int .u8 ((n:Int)/256 % 256),.int .u8 ((n:Int) % 256)];exact⟨W.heap.size,rfl,c,by rw[aaA];exact g,TD _,d⟩
theorem vX (a n k:Nat)(g:k<=2)(v0 v1 b:ay)(f:Bool)(W:ax)(h:aG W a 281 [v0,v1,b,.bool f])(c:n<2147483648):
 Calls prog 148 #[.pointer (some ⟨a,0,none⟩),.int .i64 n,.int .i64 k] W λe d=>∃N,e= .returned (.slice (some ⟨N,0,none⟩) k k)/\aG d N 5 (Lib.byteCells (dc n k))/\aG d a 281 [v0,v1,b,.bool (f||gT n k)]/\W.heap.size<=N/\Tn (λk=>k=a) W d :=by
 match k,g with
 |0,_=>exact Lz a n v0 v1 b f W h c
 |1,_=>exact Lj a n v0 v1 b f W h c
 |2,_=>exact Le a n v0 v1 b f W h c
