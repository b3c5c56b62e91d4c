/-
  For the laws' rows: files and effects that are handed in, opened.
-/
import Derived.Test.YtjelacjggijmfaaGreatDoorTXA
import Derived.Test.YtjelacjggijmfaaGreatDoorCards
import Derived.Test.YtjelacjggijmfaaGreatDoorTie
import Derived.Test.YtjelacjggijmfaaGreatDoorRows
import Derived.ProofKit
import Derived.OpenShut
import Derived.JoinedCond
import Derived.Deep.Slices
import Derived.Carry
import Derived.Deep.DeepHandedRow
import Derived.Lib.LaidTab
namespace Go.Proofs.YtjelacjggijmfaaGreatDoor
open Go.ChangeShapes Go.WideShapes Go.ChangeAt Go.RowKit Go.Deep
theorem cells_file:Tryz.prog.cellsOf 65=3:=by kernel_rfl
theorem cells_effect:Tryz.prog.cellsOf 73=3:=by kernel_rfl
theorem cells_str:Tryz.prog.cellsOf 9=1:=by kernel_rfl
theorem cells_int:Tryz.prog.cellsOf 3=1:=by kernel_rfl
theorem cells_files:Tryz.prog.cellsOf 27=1:=by kernel_rfl
theorem str_strV (s:ByteArray):Value.string s=strV s.data.toList:=by cases s;rfl
section
variable {H:Type}
theorem bulk_pos (d:DataW H):1≤Rows.uptoBulk d:=by
 cases d with
 |lit x=>cases x<;>simp[Rows.uptoBulk]
 |_=>simp[Rows.uptoBulk]
theorem bulk_len:∀l:List (DataW H),l.length≤Rows.uptoBulkAll l
 |[]=>by simp[Rows.uptoBulkAll]
 |d::r=>by
  have h1:=bulk_pos d;have h2:=bulk_len r;simp only[Rows.uptoBulkAll,List.length_cons];omega
theorem bulk_sum (g:Nat→Nat):∀(l:List (DataW H)) (k:Nat),(∀i d,l[i]?=some d→g (k+i)≤Rows.uptoBulk d)→((List.range' k l.length).map g).sum≤Rows.uptoBulkAll l
 |[],_,_=>by simp[Rows.uptoBulkAll]
 |d::r,k,h=>by
  have h1:=h 0 d rfl
  have h2:=bulk_sum g r (k+1) (fun i d hd=>by
   have:=h (i+1) d (by simpa using hd);rw[show k+1+i=k+(i+1) by omega]
   exact this)
  simp only[Rows.uptoBulkAll,List.length_cons,List.range'_succ,List.map_cons,List.sum_cons];rw[Nat.add_zero] at h1;omega
end
section
variable {H:Type} {enc:TypeId×Value→H} {W:World} {base:Nat} {spare:Nat→Bool} {held:Bool}
set_option maxRecDepth 20000 in
theorem open_file {n:Nat} {cs:List Value} {y:DataW H×List MemPlace} (h:DataW.trod enc Tryz.prog W base spare held n 65 cs=some y):∃f:Pl.File,cs=[strV f.path,strV f.text,.int .i64 f.time]∧f.path.length≤maxLen:=by
 obtain⟨xs,k,hk,hxy,hl,hxl,hf⟩:=DataW.trod_struct Tryz.underlying65 h;rw[cells_file] at hl;have hxl:xs.length=3:=hxl
 match cs,hl with
 |[v0,v1,v2],_=>
  match xs,hxl with
  |[y0,y1,y2],_=>
   have g0:=hf 0 _ rfl;have g1:=hf 1 _ rfl;have g2:=hf 2 _ rfl;simp[cells_str,cells_int] at g0 g1 g2;obtain⟨s0,e0,-,m0⟩:=DataW.trod_string Tryz.underlying9 g0;obtain⟨s1,e1,-,-⟩:=DataW.trod_string Tryz.underlying9 g1;obtain⟨z,e2,-,-⟩:=DataW.trod_int Tryz.underlying3 g2;simp only[List.cons.injEq,and_true] at e0 e1 e2;refine⟨⟨s0.data.toList,s1.data.toList,z⟩,?_,?_⟩
   ·rw[e0,e1,e2,str_strV s0,str_strV s1]
   ·show s0.data.toList.length≤maxLen
    rw[Array.length_toList];exact m0
structure InF (W:World) (v:Value) (fs:List Pl.File) (bulk:Nat):Prop where
 at' :∃a cap b o,v= .slice a fs.length cap∧(0<fs.length→a=some ⟨b,o,none⟩∧RdF W b o fs∧b<W.heap.size)
 path:∀f∈fs,f.path.length≤maxLen
 len:fs.length+1≤bulk
theorem spot_none {a:Addr} {v:Value} (h:W.cell? a=some v):a.spot=none∧a.block<W.heap.size:=by
 refine⟨World.cell?_spot h,?_⟩;unfold World.cell? at h
 rcases Nat.lt_or_ge a.block W.heap.size with h' |h'
 ·exact h'
 ·rw[Array.getElem?_eq_none h'] at h;cases h
theorem addr_at {a:Addr} (h:a.spot=none) (i:Nat):a.add i=⟨a.block,a.off+i,none⟩:=by
 unfold Addr.add;split
 ·rename_i h0;subst h0;cases a;simp_all
 ·rfl
theorem open_files {fuel:Nat} {v:Value} {x:DataW H×List MemPlace} (h:DataW.trod enc Tryz.prog W base spare held fuel 27 [v]=some x):∃fs,InF W v fs (Rows.uptoBulk x.1):=by
 rcases open_slice Tryz.underlying27 h with⟨h0,rfl⟩|⟨a,len,cap,m,n,D,Pc,hv,hb,hlc,hm,hmm,rfl,hx⟩
 ·simp only[List.cons.injEq,and_true] at h0
  exact⟨[],⟨none,0,0,0,h0,fun h=>by simp at h⟩,by simp,by simp[Rows.uptoBulk]⟩
 ·simp only[List.cons.injEq,and_true] at hv
  have hlm:len≤m:=by rw[hmm];split<;>omega
  have each:∀i,i<len→∃f:Pl.File,(W.cell? (a.add (i*3))=some (strV f.path)∧W.cell? ((a.add (i*3)).add 1)=some (strV f.text)∧W.cell? ((a.add (i*3)).add 2)=some (.int .i64 f.time))∧f.path.length≤maxLen:=fun i hi=>by
   obtain⟨cs',h1,h2⟩:=hx i (by omega);rw[cells_file] at h1;obtain⟨_,-,hc⟩:=World.cells?_some h1;obtain⟨f,rfl,hp⟩:=open_file h2;have c0:=hc 0 (by omega);have c1:=hc 1 (by omega);have c2:=hc 2 (by omega);exact⟨f,⟨by simpa [Addr.add] using c0,c1,c2⟩,hp⟩
  have hinh:Inhabited Pl.File:=⟨⟨[],[],0⟩⟩;obtain⟨F,hF⟩:=choose_lt each;have hlen:((List.range len).map F).length=len:=by simp
  refine⟨(List.range len).map F,⟨some a,cap,a.block,a.off,by rw[hlen,hv],fun h0=> ?_⟩,fun f hf=> ?_,?_⟩
  ·rw[hlen] at h0
   obtain⟨hs,hbl⟩:=spot_none (hF 0 h0).1.1;have hs' :a.spot=none:=by simpa [Addr.add] using hs
   have hbl' :a.block<W.heap.size:=by simpa [Addr.add] using hbl
   refine⟨by cases a;simp_all,fun i hi=> ?_,hbl'⟩;have hi' :i<len:=by omega
   obtain⟨⟨c0,c1,c2⟩,-⟩:=hF i hi';rw[add_add] at c1 c2;rw[addr_at hs'] at c0 c1 c2;simp only[List.getElem_map,List.getElem_range];exact⟨c0,by rw[Nat.add_assoc];exact c1,by rw[Nat.add_assoc];exact c2⟩
  ·obtain⟨i,hi,rfl⟩:=List.mem_map.1 hf
   exact(hF i (List.mem_range.1 hi)).2
  ·have:=bulk_len ((List.range len).map D)
   simp only[Rows.uptoBulk];rw[hlen];simp only[List.length_map,List.length_range] at this;omega
structure InE (W:World) (v:Value) (ef:List Pl.Eff) (bulk:Nat):Prop where
 at' :∃a cap b o,v= .slice a ef.length cap∧(0<ef.length→a=some ⟨b,o,none⟩∧RdE W W.heap.size b o ef)
 path:∀e∈ef,∀f∈e.writes,f.path.length≤maxLen
 len:ef.length+(ef.flatMap (·.writes)).length+1≤bulk
set_option maxRecDepth 20000 in
theorem open_eff {n:Nat} {cs:List Value} {y:DataW H×List MemPlace} (h:DataW.trod enc Tryz.prog W base spare held n 73 cs=some y):∃(e:Pl.Eff) (vw:Value) (bulk:Nat),cs=[strV e.cmd,vw,.int .i64 e.exit]∧InF W vw e.writes bulk∧bulk+1≤Rows.uptoBulk y.1:=by
 obtain⟨xs,k,hk,hxy,hl,hxl,hf⟩:=DataW.trod_struct Tryz.underlying73 h;rw[cells_effect] at hl;have hxl:xs.length=3:=hxl
 match cs,hl with
 |[v0,v1,v2],_=>
  match xs,hxl with
  |[y0,y1,y2],_=>
   have g0:=hf 0 _ rfl;have g1:=hf 1 _ rfl;have g2:=hf 2 _ rfl;simp[cells_str,cells_int,cells_files] at g0 g1 g2;obtain⟨s0,e0,-,-⟩:=DataW.trod_string Tryz.underlying9 g0;obtain⟨fs,hfs⟩:=open_files g1;obtain⟨z,e2,-,-⟩:=DataW.trod_int Tryz.underlying3 g2;simp only[List.cons.injEq,and_true] at e0 e2;refine⟨⟨s0.data.toList,fs,z⟩,v1,_,?_,hfs,?_⟩
   ·rw[e0,e2,str_strV s0]
   ·rw[hxy]
    simp only[List.map_cons,List.map_nil,Rows.uptoBulk,Rows.uptoBulkAll];omega
theorem flat_lenE (ef:List Pl.Eff):(ef.flatMap (·.writes)).length=(ef.map (·.writes.length)).sum:=by
 induction ef with
 |nil=>rfl
 |cons e r ih=>rw[List.flatMap_cons,List.length_append,ih,List.map_cons,List.sum_cons]
theorem flat_leE {ef:List Pl.Eff} {e:Pl.Eff} (h:e∈ef):e.writes.length≤(ef.flatMap (·.writes)).length:=by
 induction ef with
 |nil=>cases h
 |cons g r ih=>
  rw[List.flatMap_cons,List.length_append]
  rcases List.mem_cons.1 h with rfl|h
  ·omega
  ·have:=ih h
   omega
theorem sum_add_len:∀(l:List Nat),(l.map (·+1)).sum=l.sum+l.length
 |[]=>rfl
 |x::r=>by simp only[List.map_cons,List.sum_cons,List.length_cons,sum_add_len r];omega
theorem open_effs {fuel:Nat} {v:Value} {x:DataW H×List MemPlace} (h:DataW.trod enc Tryz.prog W base spare held fuel 51 [v]=some x):∃ef,InE W v ef (Rows.uptoBulk x.1):=by
 rcases open_slice Tryz.underlying51 h with⟨h0,rfl⟩|⟨a,len,cap,m,n,D,Pc,hv,hb,hlc,hm,hmm,rfl,hx⟩
 ·simp only[List.cons.injEq,and_true] at h0
  exact⟨[],⟨none,0,0,0,h0,fun h=>by simp at h⟩,by simp,by simp[Rows.uptoBulk]⟩
 ·simp only[List.cons.injEq,and_true] at hv
  have hlm:len≤m:=by rw[hmm];split<;>omega
  have each:∀i,i<len→∃e:Pl.Eff,(∃vw bulk,(W.cell? (a.add (i*3))=some (strV e.cmd)∧W.cell? ((a.add (i*3)).add 1)=some vw∧W.cell? ((a.add (i*3)).add 2)=some (.int .i64 e.exit))∧InF W vw e.writes bulk)∧e.writes.length+1≤Rows.uptoBulk (D i):=fun i hi=>by
   obtain⟨cs',h1,h2⟩:=hx i (by omega);rw[cells_effect] at h1;obtain⟨_,-,hc⟩:=World.cells?_some h1;obtain⟨e,vw,bulk,rfl,hp,hq⟩:=open_eff h2;have c0:=hc 0 (by omega);have c1:=hc 1 (by omega);have c2:=hc 2 (by omega);have hl:=hp.len;have hq:bulk+1≤Rows.uptoBulk (D i):=hq;exact⟨e,⟨vw,bulk,⟨by simpa [Addr.add] using c0,c1,c2⟩,hp⟩,by omega⟩
  have hinh:Inhabited Pl.Eff:=⟨⟨[],[],0⟩⟩;obtain⟨F,hF⟩:=choose_lt each;have hlen:((List.range len).map F).length=len:=by simp
  refine⟨(List.range len).map F,⟨some a,cap,a.block,a.off,by rw[hlen,hv],fun h0=> ?_⟩,fun e he=> ?_,?_⟩
  ·rw[hlen] at h0
   obtain⟨vw,bulk,⟨c0,-,-⟩,-⟩:=(hF 0 h0).1;obtain⟨hs,hbl⟩:=spot_none c0;have hs' :a.spot=none:=by simpa [Addr.add] using hs
   have hbl' :a.block<W.heap.size:=by simpa [Addr.add] using hbl
   refine⟨by cases a;simp_all,hbl',fun i hi=> ?_⟩;have hi' :i<len:=by omega
   obtain⟨⟨vw,bulk,⟨c0,c1,c2⟩,hin⟩,-⟩:=hF i hi';rw[add_add] at c1 c2;rw[addr_at hs'] at c0 c1 c2;simp only[List.getElem_map,List.getElem_range];obtain⟨aw,cw,bw,ow,rfl,hw⟩:=hin.at';refine⟨c0,by rw[Nat.add_assoc];exact c2,?_⟩
   by_cases h1:0<(F i).writes.length
   ·obtain⟨q1,q2,q3⟩:=hw h1
    exact⟨aw,cw,bw,ow,by rw[Nat.add_assoc];exact c1,fun _=>q1,q2,q3⟩
   ·exact⟨aw,cw,0,0,by rw[Nat.add_assoc];exact c1,fun h=>absurd h h1,fun j hj=>by omega,by omega⟩
  ·obtain⟨i,hi,rfl⟩:=List.mem_map.1 he
   obtain⟨⟨vw,bulk,-,hin⟩,-⟩:=hF i (List.mem_range.1 hi);exact hin.path
  ·have h1:=bulk_sum (fun i=>(F i).writes.length+1) ((List.range len).map D) 0 (fun i d hd=>by
    obtain⟨hi,rfl⟩:=List.getElem?_eq_some_iff.1 hd;simp only[List.length_map,List.length_range] at hi;simp only[List.getElem_map,List.getElem_range,Nat.zero_add]
    exact(hF i hi).2)
   rw[List.length_map,List.length_range] at h1;rw[flat_lenE,List.map_map,hlen];have h2:=sum_add_len ((List.range len).map fun i=>(F i).writes.length);rw[List.map_map,List.length_map,List.length_range] at h2;rw[←List.range_eq_range'] at h1;simp only[Rows.uptoBulk]
   have h3:((List.range len).map ((fun x=>x+1)∘fun i=>(F i).writes.length)).sum=((List.range len).map fun i=>(F i).writes.length+1).sum:=rfl;have h4:((List.range len).map ((fun x=>x.writes.length)∘F)).sum=((List.range len).map fun i=>(F i).writes.length).sum:=rfl;rw[h4];rw[h3] at h2;omega
end
end Go.Proofs.YtjelacjggijmfaaGreatDoor
namespace Go.Proofs.YtjelacjggijmfaaGreatDoor
open Go.ChangeShapes Go.WideShapes Go.ChangeAt Go.RowKit
theorem own:ownKnob Tryz.prog.godebug=none:=by kernel_rfl
theorem Tryz.laidOut:laidOutB Tryz.prog=true:=by kernel_rfl
theorem glob_shaped (W:World) (h:W.ShapedOpen Tryz.prog):Glob W:=
 Go.Proofs.cell_of_shapedOpen_int (zero:= #[.int .i64 0]) (t:=3) h (of_decide_eq_true (by kernel_rfl)) (by kernel_rfl) rfl (by kernel_rfl) (by kernel_rfl) Tryz.underlying3
set_option maxRecDepth 100000 in
def laidHeap (h:Array Obj):Array Obj:=
 (h.modify 1 fun
  | .cells _ t frozen=> .cells ((Go.Pinned.utf8FirstZ.map fun(n:Nat)=>Value.int .u8 (n:Int)).toArray) t frozen
  |o=>o).modify 2 fun
  | .cells _ t frozen=> .cells (([128,191,160,191,128,159,144,191,128,143,0,0,0,0,0,0,0,0,0,0,0,0,0,0,0,0,0,0,0,0,0,0].map fun(n:Int)=>Value.int .u8 n).toArray) t frozen
  |o=>o
end Go.Proofs.YtjelacjggijmfaaGreatDoor
namespace Go.Proofs.YtjelacjggijmfaaGreatDoor
open Go.ChangeShapes Go.WideShapes Go.ChangeAt Go.RowKit Go.Deep
theorem sumF_map {α:Type} (F:α→Pl.File):∀l:List α,sumF (l.map F)=(l.map fun i=>(F i).path.length+(F i).text.length+1).sum
 |[]=>rfl
 |x::r=>by rw[List.map_cons,sumF,List.map_cons,List.sum_cons,sumF_map F r]
section
variable {H:Type} {enc:TypeId×Value→H} {W:World} {base:Nat} {spare:Nat→Bool} {held:Bool}
set_option maxRecDepth 20000 in
theorem open_file5 {n:Nat} {cs:List Value} {y:DataW H×List MemPlace} (h:DataW.trod enc Tryz.prog W base spare held n 65 cs=some y):∃f:Pl.File,cs=[strV f.path,strV f.text,.int .i64 f.time]∧f.path.length≤maxLen∧f.path.length+f.text.length+1≤Rows.uptoBulk y.1:=by
 obtain⟨xs,k,hk,hxy,hl,hxl,hf⟩:=DataW.trod_struct Tryz.underlying65 h;rw[cells_file] at hl;have hxl:xs.length=3:=hxl
 match cs,hl with
 |[v0,v1,v2],_=>
  match xs,hxl with
  |[y0,y1,y2],_=>
   have g0:=hf 0 _ rfl;have g1:=hf 1 _ rfl;have g2:=hf 2 _ rfl;simp[cells_str,cells_int] at g0 g1 g2;obtain⟨s0,e0,z0,m0⟩:=DataW.trod_string Tryz.underlying9 g0;obtain⟨s1,e1,z1,-⟩:=DataW.trod_string Tryz.underlying9 g1;obtain⟨z,e2,-,-⟩:=DataW.trod_int Tryz.underlying3 g2;simp only[List.cons.injEq,and_true] at e0 e1 e2;refine⟨⟨s0.data.toList,s1.data.toList,z⟩,?_,?_,?_⟩
   ·rw[e0,e1,e2,str_strV s0,str_strV s1]
   ·show s0.data.toList.length≤maxLen
    rw[Array.length_toList];exact m0
   ·rw[hxy]
    simp only[List.map_cons,List.map_nil,Rows.uptoBulk,Rows.uptoBulkAll,z0,z1];omega
structure InG (W:World) (v:Value) (fs:List Pl.File) (bulk:Nat):Prop where
 at' :∃a cap b o,v= .slice a fs.length cap∧(0<fs.length→a=some ⟨b,o,none⟩∧RdF W b o fs∧b<W.heap.size)
 path:∀f∈fs,f.path.length≤maxLen
 sum:sumF fs+1≤bulk
theorem open_files5 {fuel:Nat} {v:Value} {x:DataW H×List MemPlace} (h:DataW.trod enc Tryz.prog W base spare held fuel 27 [v]=some x):∃fs,InG W v fs (Rows.uptoBulk x.1):=by
 rcases open_slice Tryz.underlying27 h with⟨h0,rfl⟩|⟨a,len,cap,m,n,D,Pc,hv,hb,hlc,hm,hmm,rfl,hx⟩
 ·simp only[List.cons.injEq,and_true] at h0
  exact⟨[],⟨none,0,0,0,h0,fun h=>by simp at h⟩,by simp,by simp[Rows.uptoBulk,sumF]⟩
 ·simp only[List.cons.injEq,and_true] at hv
  have hlm:len≤m:=by rw[hmm];split<;>omega
  have each:∀i,i<len→∃f:Pl.File,(W.cell? (a.add (i*3))=some (strV f.path)∧W.cell? ((a.add (i*3)).add 1)=some (strV f.text)∧W.cell? ((a.add (i*3)).add 2)=some (.int .i64 f.time))∧f.path.length≤maxLen∧f.path.length+f.text.length+1≤Rows.uptoBulk (D i):=fun i hi=>by
   obtain⟨cs',h1,h2⟩:=hx i (by omega);rw[cells_file] at h1;obtain⟨_,-,hc⟩:=World.cells?_some h1;obtain⟨f,rfl,hp,hq⟩:=open_file5 h2;have c0:=hc 0 (by omega);have c1:=hc 1 (by omega);have c2:=hc 2 (by omega);exact⟨f,⟨by simpa [Addr.add] using c0,c1,c2⟩,hp,hq⟩
  have hinh:Inhabited Pl.File:=⟨⟨[],[],0⟩⟩;obtain⟨F,hF⟩:=choose_lt each;have hlen:((List.range len).map F).length=len:=by simp
  refine⟨(List.range len).map F,⟨some a,cap,a.block,a.off,by rw[hlen,hv],fun h0=> ?_⟩,fun f hf=> ?_,?_⟩
  ·rw[hlen] at h0
   obtain⟨hs,hbl⟩:=spot_none (hF 0 h0).1.1;have hs' :a.spot=none:=by simpa [Addr.add] using hs
   have hbl' :a.block<W.heap.size:=by simpa [Addr.add] using hbl
   refine⟨by cases a;simp_all,fun i hi=> ?_,hbl'⟩;have hi' :i<len:=by omega
   obtain⟨⟨c0,c1,c2⟩,-,-⟩:=hF i hi';rw[add_add] at c1 c2;rw[addr_at hs'] at c0 c1 c2;simp only[List.getElem_map,List.getElem_range];exact⟨c0,by rw[Nat.add_assoc];exact c1,by rw[Nat.add_assoc];exact c2⟩
  ·obtain⟨i,hi,rfl⟩:=List.mem_map.1 hf
   exact(hF i (List.mem_range.1 hi)).2.1
  ·have h1:=bulk_sum (fun i=>(F i).path.length+(F i).text.length+1) ((List.range len).map D) 0 (fun i d hd=>by
    obtain⟨hi,rfl⟩:=List.getElem?_eq_some_iff.1 hd;simp only[List.length_map,List.length_range] at hi;simp only[List.getElem_map,List.getElem_range,Nat.zero_add]
    exact(hF i hi).2.2)
   rw[List.length_map,List.length_range,←List.range_eq_range'] at h1;rw[sumF_map];simp only[Rows.uptoBulk];omega
end
end Go.Proofs.YtjelacjggijmfaaGreatDoor
