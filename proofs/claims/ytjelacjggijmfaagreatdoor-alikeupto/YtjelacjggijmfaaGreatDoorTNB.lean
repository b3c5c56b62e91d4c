/-
  The small functions of the document's own answer: blanks, cutting, names, two sides with a sign between.
-/
import Derived.Test.YtjelacjggijmfaaGreatDoorTSP2
import Derived.Test.YtjelacjggijmfaaGreatDoorTLay
import Derived.Lib.FrozenHead
import Derived.Lib.Builder
import Derived.Lib.OthersKept
import Derived.Shelf.Strings.BuilderK
import Derived.Test.YtjelacjggijmfaaGreatDoorTPure
import Derived.Test.YtjelacjggijmfaaGreatDoorChecked
import Derived.WalkKit
import Derived.WalkSpells
import Derived.WalkLawsBesides
import Derived.Lib.Strings
import Derived.Lib.IndexBytes
set_option maxHeartbeats 2000000
set_option maxRecDepth 100000
namespace Go.Proofs.YtjelacjggijmfaaGreatDoor
open Go.RowKit
structure Bd (B b:Nat) (acc:List UInt8) (w:World):Prop where
 bld:Lib.IsBuilderF 319 5 B b (Lib.byteCells acc) w
 nil:acc=[]→∃p,w.heap[b]?=some (.cells #[p,.slice none 0 0] 319 (0,0))
theorem Bd.fresh (w:World):Bd w.heap.size w.heap.size [] (w.alloc (.cells #[.pointer none,.slice none 0 0] 319)):=⟨Lib.IsBuilderF.of (Lib.fresh_isBuilder _ _ w),fun _=>⟨_,Row.new w _ [.pointer none,.slice none 0 0]⟩⟩
theorem Bd.lt {B b:Nat} {acc:List UInt8} {w:World} (h:Bd B b acc w):b<w.heap.size:=by
 rcases h.bld with h|h<;>exact h.lt
theorem Bd.kept {B b:Nat} {acc:List UInt8} {w w' :World} (h:Bd B b acc w) (hk:∀(k:Nat) (c:Array Value) (t:TypeId) (f:Nat×Nat),w.heap[k]?=some (Obj.cells c t f)→w'.heap[k]?=some (Obj.cells c t f)):Bd B b acc w' :=by
 have aux:∀p,Lib.BuilderAtF 319 5 B b p (Lib.byteCells acc) w→Lib.BuilderAtF 319 5 B b p (Lib.byteCells acc) w' :=by
  rintro p ⟨hB,v,hb,⟨hl,hr⟩,hne⟩
  refine⟨hB,v,hk _ _ _ _ hb,⟨hl,?_⟩,hne⟩
  rcases hr with hr|⟨g,cap,cur,fz,hv,hBg,hg,rest⟩
  ·exact .inl hr
  ·exact .inr ⟨g,cap,cur,fz,hv,hBg,hk _ _ _ _ hg,rest⟩
 refine⟨?_,fun e=> ?_⟩
 ·rcases h.bld with h|h
  ·exact .inl (aux _ h)
  ·exact .inr (aux _ h)
 ·obtain⟨p,hp⟩:=h.nil e
  exact⟨p,hk _ _ _ _ hp⟩
theorem Bd.later {B b:Nat} {acc:List UInt8} {w w' :World} (h:Bd B b acc w) (hb:Below w.heap.size w w'):Bd B b acc w' :=
 Bd.kept h (fun k _ _ _ hk=>(hb.block k (Array.getElem?_eq_some_iff.1 hk).1).trans hk)
theorem info_builder:(Tryz.prog.info? 158).map (·.size)=some 2:=by kernel_rfl
theorem info_byte:(Tryz.prog.info? 5).map (fun i=>(i.zero,i.size,i.bytes))=some (some (.int .u8 0),1,1):=by kernel_rfl
theorem cells_byte:Tryz.prog.cellsOf 5=1:=by kernel_rfl
theorem lies_bounded:liesAt Tryz.prog Tryz.prog.depth 319 (2/Tryz.prog.cellsOf 319) 0 158 1=true:=by kernel_rfl
theorem bdCheck_fresh (b:Nat) (w:World) (h0:w.cell? ⟨b,0,none⟩=some (.pointer none)) (hsh:w.shape? b=some (319,2)) (hfz:w.frozen? ⟨b,0,none⟩=false):
 Calls Tryz.prog 122 #[.pointer (some ⟨b,0,none⟩)] w fun e w' =>e= .returned (.tuple #[])∧w' =w.setCell ⟨b,0,none⟩ (.pointer (some ⟨b,0,none⟩)):=by
 obtain⟨j,hj,hjs⟩:=Option.map_eq_some_iff.1 info_builder
 go_enter Tryz.func122,Tryz.ntmps122
 go_wp2
 rw[Lib.run_to_unsafe w ⟨b,0,none⟩ Tryz.underlying156 Tryz.underlying292 hj (by rw[hjs];decide) hsh (Nat.zero_lt_succ 1)];simp only[Result.andThen];rw[Oper.upon_value]
 go_wp2
 rw[run_callFunc_extern Tryz.func164 (by kernel_rfl) (by kernel_rfl) (by kernel_rfl) (e:=Extern.AbiNoEscape.same) (by kernel_rfl)];rw[Lib.run_noEscape];simp only[Result.andThen];rw[Oper.upon_value]
 go_wp2
 rw[Lib.run_from_unsafe w ⟨b,0,none⟩ Tryz.underlying292 Tryz.underlying156 hj hsh lies_bounded];simp only[Result.andThen];rw[Oper.upon_value]
 go_wp2
 go_end0
 exact⟨rfl,rfl⟩
theorem bdCheck_used (b:Nat) (w:World) (h0:w.cell? ⟨b,0,none⟩=some (.pointer (some ⟨b,0,none⟩))):
 Calls Tryz.prog 122 #[.pointer (some ⟨b,0,none⟩)] w fun e w' =>e= .returned (.tuple #[])∧w' =w:=by
 obtain⟨j,hj,hjs⟩:=Option.map_eq_some_iff.1 info_builder
 go_enter Tryz.func122,Tryz.ntmps122
 go_wp2
 rw[Lib.run_neq_ptr_same w _ Tryz.underlying156 hj]
 go_wp2
 go_end0
 exact⟨rfl,rfl⟩
theorem bdCheck (B b:Nat) (acc:List UInt8) (w:World) (h:Bd B b acc w):
 Calls Tryz.prog 122 #[.pointer (some ⟨b,0,none⟩)] w fun e w' =>e= .returned (.tuple #[])∧Lib.BuilderAtF 319 5 B b (.pointer (some ⟨b,0,none⟩)) (Lib.byteCells acc) w' ∧(acc=[]→∃p,w'.heap[b]?=some (.cells #[p,.slice none 0 0] 319 (0,0)))∧Below B w w' ∧Lib.OthersKept 5 (some b) w w' :=by
 have hnil:=h.nil
 rcases h.bld with h|h
 ·refine(bdCheck_fresh b w h.cell0 h.shape h.frozen0).mono ?_
  rintro e w' ⟨rfl,rfl⟩
  refine⟨rfl,h.used _,fun e=> ?_,(Below.refl B w).setCell (p:=⟨b,0,none⟩) h.1 _,(Lib.OthersKept.refl _ _ w).setCell ⟨b,0,none⟩ rfl _⟩;obtain⟨p,hp⟩:=hnil e;exact⟨.pointer (some ⟨b,0,none⟩),by simp[World.setCell,Array.getElem?_modify,hp]⟩
 ·refine(bdCheck_used b w h.cell0).mono ?_
  rintro e w' ⟨rfl,rfl⟩
  exact⟨rfl,h,hnil,Below.refl B _,Lib.OthersKept.refl _ _ _⟩
structure BdAt (B b:Nat) (acc:List UInt8) (w:World) (p v:Value):Prop where
 head:p= .pointer none∨p= .pointer (some ⟨b,0,none⟩)
 at' :Lib.BuilderAtF 319 5 B b p (Lib.byteCells acc) w
 le:B≤b
 heap:w.heap[b]?=some (.cells #[p,v] 319 (0,0))
 own:w.ownsRowF B 5 1 v acc.length (Lib.byteCells acc)
 ne:v.ownBlock≠some b
 nil:acc=[]→v= .slice none 0 0
theorem Bd.buf {B b:Nat} {acc:List UInt8} {w:World} (h:Bd B b acc w):∃p v,BdAt B b acc w p v:=by
 have hl:=Lib.byteCells_length acc
 have key:∀p,(p= .pointer none∨p= .pointer (some ⟨b,0,none⟩))→Lib.BuilderAtF 319 5 B b p (Lib.byteCells acc) w→∃p v,BdAt B b acc w p v:=fun p hp hA=>by
  have hA' :=hA;obtain⟨hB,v,hb,hown,hne⟩:=hA';rw[hl] at hown;refine⟨p,v,hp,hA,hB,hb,hown,hne,fun e=> ?_⟩;obtain⟨q,hq⟩:=h.nil e;rw[hb] at hq;simp at hq;exact hq.2
 rcases h.bld with hA|hA
 ·exact key _ (.inl rfl) hA
 ·exact key _ (.inr rfl) hA
theorem BdAt.slice {B b:Nat} {acc:List UInt8} {w:World} {p v:Value} (h:BdAt B b acc w p v):∃a cap,v= .slice a acc.length cap:=by
 rcases h.own.2 with⟨rfl,hz⟩|⟨g,cap,cur,fz,rfl,_⟩
 ·exact⟨none,0,by rw[hz]⟩
 ·exact⟨_,_,rfl⟩
theorem bdString (B b:Nat) (acc:List UInt8) (s:ByteArray) (w:World) (h:Bd B b acc w) (hlen:acc.length+s.size≤140737488355328) (hBw:B≤w.heap.size):
 Calls Tryz.prog 75 #[.pointer (some ⟨b,0,none⟩),.string s] w fun e w' =>e= .returned (.tuple #[.int .i64 s.size,.nilIface])∧Bd B b (acc++s.data.toList) w' ∧Below B w w' ∧Lib.OthersKept 5 (some b) w w' :=by
 obtain⟨i0,hi,hz0,hz1,hz2⟩:=info_parts info_byte;have hbl:(Lib.byteCells acc).length=acc.length:=Lib.byteCells_length acc;have hnil:=h.nil
 go_enter Tryz.func75,Tryz.ntmps75
 go_wp2_with (go_at_call 122;refine(bdCheck B b acc _ h).mono ?_)
 rintro e w1 ⟨rfl,h1,hn1,hb1,hk1⟩
 obtain⟨hB,v,hbk,hown,hne⟩:=h1
 have hv0:acc=[]→v= .slice none 0 0:=fun e=>by
  obtain⟨q,hq⟩:=hn1 e;rw[hbk] at hq;simp at hq;exact hq.2
 have c0:w1.cell? ⟨b,0,none⟩=some (.pointer (some ⟨b,0,none⟩)):=by rw[Lib.cell_of_heap hbk];rfl
 have c1:w1.cell? ⟨b,1,none⟩=some v:=by rw[Lib.cell_of_heap hbk];rfl
 go_wp2_with (at_builtin;refine Lib.wpList_append_own_stringF _ rfl _ _ 126 9 rfl B 5 i0 Tryz.underlying126 Tryz.underlying9 hi hz0 hz1 hz2 _ _ _ rfl hown s rfl ?c3 ?c4 ?c5 ?_)
 case c3=>unfold maxLen;omega
 case c4=>omega
 case c5=>have:=hb1.size;omega
 intro v' w2 hown' hgrow hnn;have hlt:b<w1.heap.size:=(Array.getElem?_eq_some_iff.1 hbk).1
 have hb2:w2.heap[b]?=some (.cells #[.pointer (some ⟨b,0,none⟩),v] 319 (0,0)):=by
  rw[hgrow.block b hlt (fun e=>hne e.symm)];exact hbk
 have d0:w2.cell? ⟨b,0,none⟩=some (.pointer (some ⟨b,0,none⟩)):=by rw[Lib.cell_of_heap hb2];rfl
 have d1:w2.cell? ⟨b,1,none⟩=some v:=by rw[Lib.cell_of_heap hb2];rfl
 have f1:w2.frozen? ⟨b,1,none⟩=false:=Lib.frozen_of_heap hb2 1
 obtain⟨ao,n',cap,rfl⟩:∃ao n' cap,v' = .slice ao n' cap:=by
  rcases hown'.2 with⟨hv,_⟩|⟨g,cap,cur,fz,hv,_⟩
  ·exact⟨_,_,_,hv⟩
  ·exact⟨_,_,_,hv⟩
 have hbs:Lib.byteCells (acc++s.data.toList)=Lib.byteCells acc++Lib.strCells s:=Lib.byteCells_append _ _
 go_wp2
 go_ret2
 refine⟨rfl,⟨.inr ?_,fun e=> ?_⟩,?_,(hk1.grown hgrow (Lib.ownsRowF_kind hown)).setCell ⟨b,1,none⟩ rfl _⟩
 ·rw[hbs]
  exact Lib.BuilderAtF.put (T:=319) (e:=5) hB hb2 (bs' :=Lib.byteCells acc++Lib.strCells s) (by simpa [Lib.strCells_length,hbl] using hown') (by decide)
 ·have e1:acc=[]:=(List.append_eq_nil_iff.1 e).1
  have e2:s.data.toList=[]:=(List.append_eq_nil_iff.1 e).2;have hs:s=ByteArray.empty:=by cases s;simp_all;rfl
  have:=hnn.2 ⟨hv0 e1,hs⟩;rw[this];exact⟨.pointer (some ⟨b,0,none⟩),by simp[World.setCell,Array.getElem?_modify,hb2]⟩
 ·exact(hb1.grown hgrow (by have:=hb1.size;omega) (fun k hk=>(hown.lt k hk).1)).setCell (p:=⟨b,1,none⟩) hB _
theorem bdLen (B b:Nat) (acc:List UInt8) (w:World) (h:Bd B b acc w):Calls Tryz.prog 243 #[.pointer (some ⟨b,0,none⟩)] w fun e w' =>e= .returned (.int .i64 acc.length)∧w' =w:=by
 obtain⟨p,v,hA⟩:=h.buf;obtain⟨a,cap,rfl⟩:=hA.slice;have c1:w.cell? ⟨b,1,none⟩=some (.slice a acc.length cap):=by rw[Lib.cell_of_heap hA.heap];rfl
 clear hA h
 go_enter Tryz.func243,Tryz.ntmps243
 go_wp2
 go_ret
 exact⟨rfl,rfl⟩
theorem bdGive_nil (B b:Nat) (w:World) (h:Bd B b [] w):Calls Tryz.prog 79 #[.pointer (some ⟨b,0,none⟩)] w fun e w' =>e= .returned (.string ⟨#[]⟩)∧Below B w w' :=by
 obtain⟨p,hp⟩:=h.nil rfl
 have c1:w.drew.cell? ⟨b,1,none⟩=some (.slice none 0 0):=by
  have:w.drew.heap[b]?=some (.cells #[p,.slice none 0 0] 319 (0,0)):=hp;rw[Lib.cell_of_heap this];rfl
 have hSD:(Builtin.unsafeSliceData_ #[126] 241 #[.slice none 0 0]).run Tryz.prog w.drew= .ok (.pointer none) w.drew:=rfl;have hUS:(Builtin.unsafeString_ #[241,3] 9 #[.pointer none,.int .i64 0]).run Tryz.prog w.drew= .ok (.string ⟨#[]⟩) w.drew:=Lib.run_unsafeString_none w.drew _ _ _ none
 go_enter Tryz.func79,Tryz.ntmps79
 go_wp2
 go_region
 all_goals(go_wp2;go_ret;exact⟨rfl,Below.drew (Below.refl B w)⟩)
theorem bdGive_some (B b:Nat) (l:List UInt8) (w:World) (h:Bd B b l w) (h0:l≠[]):Calls Tryz.prog 79 #[.pointer (some ⟨b,0,none⟩)] w fun e w' =>e= .returned (.string ⟨l.toArray⟩)∧Below B w w' :=by
 obtain⟨p,v,hA⟩:=h.buf;have hl0:l.length≠0:=by simpa using h0
 obtain⟨g,cap,cur,fz,rfl,hbg,hg,hfz,hnc,hcm,hcs,htake⟩:∃g cap cur fz,v= .slice (some ⟨g,0,none⟩) l.length cap∧B≤g∧w.heap[g]?=some (.cells cur 5 fz)∧fz.2≤l.length*1∧l.length≤cap∧cap≤maxLen∧cur.size=cap*1∧cur.toList.take (l.length*1)=Lib.byteCells l:=by
  rcases hA.own.2 with⟨_,hz⟩|⟨g,cap,cur,fz,hv,r⟩
  ·exact absurd hz hl0
  ·exact⟨g,cap,cur,fz,hv,r⟩
 have c1:w.drew.cell? ⟨b,1,none⟩=some (.slice (some ⟨g,0,none⟩) l.length cap):=by
  have:w.drew.heap[b]?=some (.cells #[p,.slice (some ⟨g,0,none⟩) l.length cap] 319 (0,0)):=hA.heap;rw[Lib.cell_of_heap this];rfl
 have hSD:(Builtin.unsafeSliceData_ #[126] 241 #[.slice (some ⟨g,0,none⟩) l.length cap]).run Tryz.prog w.drew= .ok (.pointer (some ⟨g,0,none⟩)) w.drew:=Lib.run_unsafeSliceData_row _ _ _ _ _ _ (by omega)
 have hUS:(Builtin.unsafeString_ #[241,3] 9 #[.pointer (some ⟨g,0,none⟩),.int .i64 l.length]).run Tryz.prog w.drew= .ok (.string ⟨l.toArray⟩) (w.drew.freeze ⟨g,0,none⟩ l.length):=by
  refine Lib.run_unsafeString_row w.drew 241 3 9 5 Tryz.underlying241 cells_byte g cur.size (by have hg' :w.drew.heap[g]?=some (.cells cur 5 fz):=hg;simp[World.shape?,hg']) l h0 (by omega) (by unfold maxLen at hcm;omega) ?_;intro j x hx;exact hA.own.cells (g:=g) rfl j (.int .u8 x.toNat) (by simp[Lib.byteCells,hx])
 clear hA h htake
 go_enter Tryz.func79,Tryz.ntmps79
 go_wp2
 go_region
 all_goals(go_wp2;go_ret;exact⟨rfl,Lib.below_freeze (Below.drew (Below.refl B w)) (p:=⟨g,0,none⟩) hbg _⟩)
theorem bdGive (B b:Nat) (l:List UInt8) (w:World) (h:Bd B b l w):Calls Tryz.prog 79 #[.pointer (some ⟨b,0,none⟩)] w fun e w' =>e= .returned (.string ⟨l.toArray⟩)∧Below B w w' :=by
 by_cases h0:l=[]
 ·subst h0;exact bdGive_nil B b w h
 ·exact bdGive_some B b l w h h0
end Go.Proofs.YtjelacjggijmfaaGreatDoor
namespace Go.Mk
def rdrop (p:UInt8→Bool) (l:Bs):Bs:=(l.reverse.dropWhile p).reverse
theorem rdrop_nil (p:UInt8→Bool):rdrop p []=[]:=rfl
theorem rdrop_cons (p:UInt8→Bool) (c:UInt8) (l:Bs):rdrop p (c::l)=if(rdrop p l).isEmpty&&p c then [] else c::rdrop p l:=by
 unfold rdrop;rw[List.reverse_cons,List.dropWhile_append]
 by_cases h:(l.reverse.dropWhile p).isEmpty
 ·have h2:(l.reverse.dropWhile p)=[]:=by simpa using h
  rw[h2]
  by_cases hc:p c
  ·simp[hc]
  ·simp[hc]
 ·simp[h]
theorem rdrop_le (p:UInt8→Bool) (l:Bs):(rdrop p l).length≤l.length:=by
 induction l with
 |nil=>simp[rdrop_nil]
 |cons c r ih=>rw[rdrop_cons];split<;>simp<;>omega
theorem cutL_le (l:Bs):(cutL l).length≤l.length:=by
 unfold cutL;exact(List.dropWhile_suffix _).length_le
theorem cut_le (l:Bs):(cut l).length≤l.length:=Nat.le_trans (cutL_le _) (rdrop_le _ _)
theorem kindOf_le (l:Bs):(kindOf l).2.length≤l.length:=by
 unfold kindOf;split<;>simp<;>omega
theorem dropWhile_le (p:UInt8→Bool) (l:Bs):(l.dropWhile p).length≤l.length:=(List.dropWhile_suffix _).length_le
end Go.Mk
namespace Go.Mk
open Go
def after (c:UInt8) (l:Bs):Bs:=(l.dropWhile (fun x=> !(x==c))).drop 1
theorem index_one (c:UInt8) (l:Bs):(l.contains c=true→Lib.index l [c]=(before c l).length)∧(l.contains c=false→Lib.index l [c]= -1):=by
 induction l with
 |nil=>simp[Lib.index]
 |cons b r ih=>
  by_cases h:b=c
  ·subst h
   simp[Lib.index,before]
  ·have hn:(c==b)=false:=by simpa using fun e=>h e.symm
   have hb:(b==c)=false:=by simpa using h
   have hp:List.isPrefixOf [c] (b::r)=false:=by simp[List.isPrefixOf,hn]
   have hc:(b::r).contains c=r.contains c:=by rw[List.contains_cons,hn,Bool.false_or]
   rw[hc];unfold Lib.index;rw[hp];simp only[Bool.false_eq_true,if_false]
   constructor
   ·intro h1
    have:=ih.1 h1;rw[this];have hne:(((before c r).length:Int)== -1)=false:=by rw[beq_eq_false_iff_ne];omega
    rw[hne];simp[before,hb]
   ·intro h1
    rw[ih.2 h1];rfl
theorem none_of (c b:UInt8) (r:Bs) (h:(b::r).contains c=false):(b==c)=false∧r.contains c=false:=by
 rw[List.contains_cons,Bool.or_eq_false_iff] at h;refine⟨?_,h.2⟩;have:=h.1;rw[beq_eq_false_iff_ne] at this⊢;exact fun e=>this e.symm
theorem before_all (c:UInt8) (l:Bs) (h:l.contains c=false):before c l=l:=by
 induction l with
 |nil=>rfl
 |cons b r ih=>
  obtain⟨hb,hr⟩:=none_of c b r h;have:=ih hr;unfold before at this⊢;rw[List.takeWhile_cons,hb,this];rfl
theorem after_none (c:UInt8) (l:Bs) (h:l.contains c=false):after c l=[]:=by
 induction l with
 |nil=>rfl
 |cons b r ih=>
  obtain⟨hb,hr⟩:=none_of c b r h;have:=ih hr;unfold after at this⊢;rw[List.dropWhile_cons,hb];exact this
def has (c:UInt8) (l:Bs):Bool:=l.contains c
theorem cut_one (c:UInt8) (l:Bs):Lib.cut l [c]=(before c l,after c l,has c l):=by
 unfold Lib.cut has;cases h:l.contains c with
 |true=>
  rw[(index_one c l).1 h,if_pos (by omega)];simp only[Int.toNat_natCast,List.length_cons,List.length_nil];have hl:before c l++l.dropWhile (fun x=> !(x==c))=l:=List.takeWhile_append_dropWhile
  have h1:l.take (before c l).length=before c l:=by
   conv=>lhs;arg 2;rw[←hl]
   exact List.take_left
  have h2:l.drop ((before c l).length+(0+1))=after c l:=by
   rw[←List.drop_drop]
   conv=>lhs;arg 2;arg 2;rw[←hl]
   rw[List.drop_left];rfl
  rw[h1,h2]
 |false=>
  rw[(index_one c l).2 h,if_neg (by omega),before_all c l h,after_none c l h]
theorem contains_blk (c:UInt8):[32,9].contains c=blk c:=by simp only[List.contains_cons,List.contains_nil,Bool.or_false,blk]
theorem trimS_cut (l:Bs):Lib.trimS l [32,9]=cut l:=by
 unfold Lib.trimS Lib.trimLeftS Lib.trimRightS cut cutL cutR;simp only[contains_blk]
theorem trimLeftS_cutL (l:Bs):Lib.trimLeftS l [32,9]=cutL l:=by
 unfold Lib.trimLeftS cutL;simp only[contains_blk]
theorem trimRightS_noBack (l:Bs):Lib.trimRightS l [92]=noBack l:=by
 unfold Lib.trimRightS noBack;have:∀c:UInt8,[92].contains c=(c==92):=fun c=>by simp only[List.contains_cons,List.contains_nil,Bool.or_false]
 simp only[this]
theorem hasSuffix_back (l:Bs):Lib.hasSuffix l [92]=endsBack l:=by
 unfold Lib.hasSuffix endsBack;rw[Bool.eq_iff_iff];simp only[List.isSuffixOf_iff_suffix,beq_iff_eq]
 constructor
 ·rintro⟨t,rfl⟩;simp
 ·intro h
  obtain⟨ys,rfl⟩:=List.getLast?_eq_some_iff.1 h;exact⟨ys,rfl⟩
theorem trimSuffix_back (l:Bs) (h:endsBack l=true):Lib.trimSuffix l [92]=l.dropLast:=by
 unfold Lib.trimSuffix;rw[hasSuffix_back,if_pos h,List.dropLast_eq_take];rfl
end Go.Mk
namespace Go.Cp
open Go
abbrev Bs:=List UInt8
structure Nv where
 text:Bs
 late:Bool
def nv0:Nv:=⟨[],false⟩
structure Er where
 txt:Bs
 er:Nat
 refs:Nat
def addB (acc part:Bs):Bs:=if acc.length≤2000 then acc++part else acc
def toldB (acc:Bs) (refs:Nat):Er:=if 2000<acc.length then⟨[],5,refs⟩ else⟨acc,0,refs⟩
def expF (N:Bs→Nv) (sg:UInt8→Option Bs):Nat→List Bs→Nat→Bs→Bs→Option Er
 |0,_,_,_,_=>none
 |f+1,marked,refs,acc,text=>
  if Mk.has 36 text=false then some (toldB (addB acc (Mk.before 36 text)) refs) else
  match Mk.after 36 text with
  |[]=>some ⟨[],1,refs⟩
  |c::rest=>
   if c=36 then expF N sg f marked refs (addB (addB acc (Mk.before 36 text)) [36]) rest
   else if c=40 then
    if Mk.has 41 rest=false∨Mk.isName (Mk.before 41 rest)=false then some ⟨[],1,refs⟩
    else if 300<refs+1 then some ⟨[],5,refs+1⟩
    else if(N (Mk.before 41 rest)).late=true then
     if Mk.before 41 rest∈marked then some ⟨[],4,refs+1⟩
     else match expF N sg f (marked++[Mk.before 41 rest]) (refs+1) [] (N (Mk.before 41 rest)).text with
      |none=>none
      |some r=>if r.er=0 then expF N sg f marked r.refs (addB (addB acc (Mk.before 36 text)) r.txt) (Mk.after 41 rest) else some ⟨[],r.er,r.refs⟩
    else expF N sg f marked (refs+1) (addB (addB acc (Mk.before 36 text)) (N (Mk.before 41 rest)).text) (Mk.after 41 rest)
   else match sg c with
    |none=>some ⟨[],1,refs⟩
    |some p=>expF N sg f marked refs (addB (addB acc (Mk.before 36 text)) p) rest
theorem expF_mono {N:Bs→Nv} {sg:UInt8→Option Bs}:∀(f g:Nat) (m:List Bs) (k:Nat) (a t:Bs) (r:Er),f≤g→expF N sg f m k a t=some r→expF N sg g m k a t=some r
 |0,_,_,_,_,_,_,_,h=>by cases h
 |f+1,0,_,_,_,_,_,hg,_=>by omega
 |f+1,g+1,m,k,a,t,r,hg,h=>by
  rw[expF] at h⊢;split
  ·rename_i h1
   rw[if_pos h1] at h;exact h
  ·rename_i h1
   rw[if_neg h1] at h;cases hA:Mk.after 36 t with
   |nil=>rw[hA] at h;exact h
   |cons c rest=>
    rw[hA] at h;simp only at h⊢;split
    ·rename_i h2
     rw[if_pos h2] at h;exact expF_mono f g _ _ _ _ _ (by omega) h
    ·rename_i h2
     rw[if_neg h2] at h;split
     ·rename_i h3
      rw[if_pos h3] at h;split
      ·rename_i h4
       rw[if_pos h4] at h;exact h
      ·rename_i h4
       rw[if_neg h4] at h;split
       ·rename_i h5
        rw[if_pos h5] at h;exact h
       ·rename_i h5
        rw[if_neg h5] at h;split
        ·rename_i h6
         rw[if_pos h6] at h;split
         ·rename_i h7
          rw[if_pos h7] at h;exact h
         ·rename_i h7
          rw[if_neg h7] at h;cases hr:expF N sg f (m++[Mk.before 41 rest]) (k+1) [] (N (Mk.before 41 rest)).text with
          |none=>rw[hr] at h;cases h
          |some r1=>
           rw[hr] at h;rw[expF_mono f g _ _ _ _ _ (by omega) hr];simp only at h⊢;split
           ·rename_i h8
            rw[if_pos h8] at h;exact expF_mono f g _ _ _ _ _ (by omega) h
           ·rename_i h8
            rw[if_neg h8] at h;exact h
        ·rename_i h6
         rw[if_neg h6] at h;exact expF_mono f g _ _ _ _ _ (by omega) h
     ·rename_i h3
      rw[if_neg h3] at h;cases hs:sg c with
      |none=>rw[hs] at h;exact h
      |some p=>
       rw[hs] at h;exact expF_mono f g _ _ _ _ _ (by omega) h
def Exp (N:Bs→Nv) (sg:UInt8→Option Bs) (m:List Bs) (k:Nat) (a t:Bs) (r:Er):Prop:=∃f,expF N sg f m k a t=some r
theorem Exp.det {N:Bs→Nv} {sg:UInt8→Option Bs} {m:List Bs} {k:Nat} {a t:Bs} {r s:Er} (h:Exp N sg m k a t r) (g:Exp N sg m k a t s):r=s:=by
 obtain⟨f1,h1⟩:=h;obtain⟨f2,h2⟩:=g;have e1:=expF_mono f1 (f1+f2) m k a t r (by omega) h1;have e2:=expF_mono f2 (f1+f2) m k a t s (by omega) h2;rw[e1] at e2;cases e2;rfl
theorem Exp.free {N:Bs→Nv} {sg:UInt8→Option Bs} {m:List Bs} {k:Nat} {a t:Bs} (h:Mk.has 36 t=false):Exp N sg m k a t (toldB (addB a (Mk.before 36 t)) k):=⟨1,by rw[expF,if_pos h]⟩
end Go.Cp
namespace Go.Proofs.YtjelacjggijmfaaGreatDoor
open Go.RowKit
theorem bdAdd (B b:Nat) (acc:List UInt8) (s:ByteArray) (w:World) (h:Bd B b acc w) (hs:s.size≤70368744177664) (hB:B≤w.heap.size):
 Calls Tryz.prog 196 #[.pointer (some ⟨b,0,none⟩),.string s] w fun e w' =>e= .returned (.tuple #[])∧Bd B b (Cp.addB acc s.data.toList) w' ∧Below B w w' ∧Lib.OthersKept 5 (some b) w w' :=by
 have C1:=hide (bdLen B b acc w h)
 by_cases hl:acc.length≤2000
 ·have t1:(acc.length:Int)≤2000:=by omega
  have C2:=hide (bdString B b acc s w h (by omega) hB);have e1:Cp.addB acc s.data.toList=acc++s.data.toList:=by unfold Cp.addB;rw[if_pos hl]
  rw[e1];clear h
  go_enter Tryz.func196,Tryz.ntmps196
  go_wp2_with (first
   |(go_at_call 243;refine(uh C1).mono ?_;rintro e w1 ⟨rfl,rfl⟩)
   |(go_at_call 75;refine(uh C2).mono ?_;rintro e w2 ⟨rfl,h2,h3,h4⟩)
   |fail)
  go_end0
  exact⟨rfl,h2,h3,h4⟩
 ·have t1:¬(acc.length:Int)≤2000:=by omega
  have e1:Cp.addB acc s.data.toList=acc:=by unfold Cp.addB;rw[if_neg hl]
  rw[e1];have HB:=hide h;clear h
  go_enter Tryz.func196,Tryz.ntmps196
  go_wp2_with (first
   |(go_at_call 243;refine(uh C1).mono ?_;rintro e w1 ⟨rfl,rfl⟩)
   |fail)
  go_end0
  exact⟨rfl,uh HB,Below.refl _ _,Lib.OthersKept.refl _ _ _⟩
theorem bdTold (B b:Nat) (acc:List UInt8) (k:Nat) (w:World) (h:Bd B b acc w):
 Calls Tryz.prog 197 #[.pointer (some ⟨b,0,none⟩)] w fun e w' =>e= .returned (.tuple #[.string ⟨(Cp.toldB acc k).txt.toArray⟩,.int .i64 (Cp.toldB acc k).er])∧Below B w w' :=by
 have C1:=hide (bdLen B b acc w h)
 by_cases hl:2000<acc.length
 ·have t1:(2000:Int)<(acc.length:Int):=by omega
  have e1:Cp.toldB acc k=⟨[],5,k⟩:=by unfold Cp.toldB;rw[if_pos hl]
  rw[e1];clear h
  go_enter Tryz.func197,Tryz.ntmps197
  go_wp2_with (first
   |(go_at_call 243;refine(uh C1).mono ?_;rintro e w1 ⟨rfl,rfl⟩)
   |fail)
  go_ret2
  exact⟨rfl,Below.refl _ _⟩
 ·have t1:¬(2000:Int)<(acc.length:Int):=by omega
  have C2:=hide (bdGive B b acc w h);have e1:Cp.toldB acc k=⟨acc,0,k⟩:=by unfold Cp.toldB;rw[if_neg hl]
  rw[e1];clear h
  go_enter Tryz.func197,Tryz.ntmps197
  go_wp2_with (first
   |(go_at_call 243;refine(uh C1).mono ?_;rintro e w1 ⟨rfl,rfl⟩)
   |(go_at_call 79;refine(uh C2).mono ?_;rintro e w2 ⟨rfl,h2⟩)
   |fail)
  go_ret2
  exact⟨rfl,h2⟩
theorem bcell {W w1:World} (hb:Below W.heap.size W w1):(∀b o,b<W.heap.size→w1.cell? ⟨b,o,none⟩=W.cell? ⟨b,o,none⟩)∧(∀b o,b<W.heap.size→w1.frozen? ⟨b,o,none⟩=W.frozen? ⟨b,o,none⟩):=
 ⟨fun b o h=>hb.cell (p:=⟨b,o,none⟩) h,fun b o h=>hb.frozen (p:=⟨b,o,none⟩) h⟩
def Box4 (w:World) (b:Nat) (t:TypeId) (a0 a1 a2 a3:Value):Prop:=w.heap[b]?=some (.cells #[a0,a1,a2,a3] t (0,0))
theorem Box4.new (w:World) (t:TypeId) (a0 a1 a2 a3:Value):Box4 (w.alloc (.cells #[a0,a1,a2,a3] t)) w.heap.size t a0 a1 a2 a3:=by show(w.heap.push _)[w.heap.size]?=_;simp
theorem Box4.lt {w:World} {b:Nat} {t:TypeId} {a0 a1 a2 a3:Value} (h:Box4 w b t a0 a1 a2 a3):b<w.heap.size:=(Array.getElem?_eq_some_iff.1 h).1
theorem Box4.later {w w' :World} {b:Nat} {t:TypeId} {a0 a1 a2 a3:Value} (h:Box4 w b t a0 a1 a2 a3) (hb:Below w.heap.size w w'):Box4 w' b t a0 a1 a2 a3:=(hb.block b h.lt).trans h
theorem Box4.alloc {w:World} {b:Nat} {t:TypeId} {a0 a1 a2 a3:Value} (h:Box4 w b t a0 a1 a2 a3) (o:Obj):Box4 (w.alloc o) b t a0 a1 a2 a3:=(Below.heap_alloc w o b h.lt).trans h
theorem Box4.cells {w:World} {b:Nat} {t:TypeId} {a0 a1 a2 a3:Value} (h:Box4 w b t a0 a1 a2 a3):
 (w.cell? ⟨b,0,none⟩=some a0∧w.cell? ⟨b,1,none⟩=some a1∧w.cell? ⟨b,2,none⟩=some a2∧w.cell? ⟨b,3,none⟩=some a3)∧
 (w.frozen? ⟨b,0,none⟩=false∧w.frozen? ⟨b,1,none⟩=false∧w.frozen? ⟨b,2,none⟩=false∧w.frozen? ⟨b,3,none⟩=false):=by
 unfold Box4 at h;simp[World.cell?,World.frozen?,h]
def blkI (r:Int):Bool:=r==32||r==9
def letterI (r:Int):Bool:=(decide (65≤r)&&decide (r≤90))||(decide (97≤r)&&decide (r≤122))||(decide (48≤r)&&decide (r≤57))||r==95
theorem isBlank_any (r:Int) (w:World):
 Calls Tryz.prog 212 #[.int .i32 r] w fun e w' =>e= .returned (.bool (blkI r))∧w=w' :=by
 go_enter Tryz.func212,Tryz.ntmps212
 go_wp2
 all_goals go_ret
 all_goals(refine ⟨?_,rfl⟩;simp[blkI, *])
theorem isLetter_any (r:Int) (w:World):
 Calls Tryz.prog 275 #[.int .i32 r] w fun e w' =>e= .returned (.bool (letterI r))∧w=w' :=by
 go_enter Tryz.func275,Tryz.ntmps275
 go_wp2
 all_goals go_ret
 all_goals(refine ⟨ret_bool ?_,rfl⟩;rw[Bool.eq_iff_iff];simp[letterI];try omega)
theorem letterI_byte (c:UInt8):letterI c.toNat=Mk.letter c:=by
 rw[Bool.eq_iff_iff];simp[letterI,Mk.letter,UInt8.le_iff_toNat_le,←UInt8.toNat_inj];omega
theorem all_letter_not (l:List UInt8) (i:Nat) (h:i<l.length) (hn:Mk.letter l[i]=false):l.all Mk.letter=false:=by
 rw[List.all_eq_false];exact⟨l[i],List.getElem_mem h,by simp[hn]⟩
theorem isName_long (l:List UInt8) (h:16<l.length):Mk.isName l=false:=by simp[Mk.isName];omega
theorem high_not (c:UInt8) (h:128≤c.toNat):Mk.letter c=false:=by
 rw[←letterI_byte];simp[letterI];omega
theorem highI_not (n:Nat) (h:128≤n):letterI n=false:=by simp[letterI];omega
theorem width_pos (s:ByteArray) (pos:Nat) (h:pos<s.size):1≤(Utf8.decode s pos).2:=by
 by_cases ha:(s[pos]'h).toNat<128
 ·rw[decode_ascii s pos h ha]
  exact Nat.le_refl _
 ·exact(decode_high s pos h (by omega)).2
theorem take_snoc (s:ByteArray) (k:Nat) (h:k<s.size):s.data.toList.take (k+1)=s.data.toList.take k++[s[k]]:=by
 rw[List.take_succ_eq_append_getElem (by simpa using h)];rfl
theorem empty_of {s:ByteArray} (h:s.toList.isEmpty=true):s.data.toList=[]:=by
 rw[Lib.toList_data] at h;simpa using h
theorem nonempty_of {s:ByteArray} (h:s.toList.isEmpty=false):s.data.toList≠[]:=by
 rw[Lib.toList_data] at h;simpa using h
theorem isName_all (s:ByteArray) (h0:s.data.toList≠[]) (h16:s.size≤16):Mk.isName s.data.toList=s.data.toList.all Mk.letter:=by
 have hl:=Lib.size_eq s;have:s.data.toList.isEmpty=false:=by simpa using h0
 have h2:decide (s.data.toList.length≤16)=true:=by simp only[decide_eq_true_eq];omega
 unfold Mk.isName;rw[this,h2];simp
theorem isName_at (s:ByteArray) (h0:s.data.toList≠[]) (h16:s.size≤16) (pos:Nat) (h:pos<s.size) (hn:Mk.letter s[pos]=false):Mk.isName s.data.toList=false:=by
 rw[isName_all s h0 h16];exact all_letter_not _ pos (by rw[←Lib.size_eq];exact h) hn
theorem isName_end (s:ByteArray) (h0:s.data.toList≠[]) (h16:s.size≤16) (pos:Nat) (h:¬pos<s.size) (ha:(s.data.toList.take pos).all Mk.letter=true):Mk.isName s.data.toList=true:=by
 rw[isName_all s h0 h16]
 rwa [List.take_of_length_le (by rw[←Lib.size_eq];omega)] at ha
theorem isName_any (s:ByteArray) (w:World):
 Calls Tryz.prog 244 #[.string s] w fun e w' =>e= .returned (.bool (Mk.isName s.data.toList))∧Below w.heap.size w w' :=by
 cases h0:s.toList.isEmpty with
 |true=>
  have HE:=hide (empty_of h0)
  go_enter Tryz.func244,Tryz.ntmps244
  go_wp2
  go_ret
  exact⟨ret_bool (by rw[uh HE];rfl),Below.refl _ _⟩
 |false=>
  have HE:=hide (nonempty_of h0)
  by_cases h16:16<s.size
  ·go_enter Tryz.func244,Tryz.ntmps244
   go_wp2
   all_goals go_ret
   all_goals exact⟨ret_bool (isName_long _ (by rw[←Lib.size_eq];exact h16)).symm,Below.refl _ _⟩
  have h16' :s.size≤16:=by omega
  go_enter Tryz.func244,Tryz.ntmps244
  go_wp2
  go_loopw [4] (fun _ wr=>∃pos:Nat,wr.heap[w.heap.size]?=some (.stringIter s pos)∧Below w.heap.size w wr∧(s.data.toList.take pos).all Mk.letter=true) (fun _ wr=>s.size-wr.iterPos w.heap.size)
  case atStart=>
   exact⟨0,by simpa using World.iter_heap w s 0,(Below.refl _ w).alloc (Nat.le_refl _) _,by simp⟩
  case round=>
   obtain⟨pos,hit,hb,hall⟩:=hrel;have HA:=hide hall;clear hall;have hsz:w.heap.size<wr.heap.size:=(Array.getElem?_eq_some_iff.1 hit).1
   by_cases hp:pos<s.size
   ·have hnx:∀ty,(Instr.next (.pointer (some ⟨w.heap.size,0,none⟩)) true ty).run Tryz.prog wr=_:=fun ty=>Lib.run_next_any_at wr w.heap.size s pos ty hit hp
    have hwd:=width_pos s pos hp;have hd1:=decode_le s pos;have hit2:=Lib.iterAt_heap wr w.heap.size s pos (pos+(Utf8.decode s pos).2) hit;have hb2:=Lib.below_iterAt hb (k:=w.heap.size) (Nat.le_refl _) s (pos+(Utf8.decode s pos).2)
    by_cases hl:letterI (Utf8.decode s pos).1=true
    ·have hlow:(s[pos]'hp).toNat<128:=by
      rcases Nat.lt_or_ge (s[pos]'hp).toNat 128 with h|h
      ·exact h
      ·rw[highI_not _ (decode_high s pos hp h).1] at hl;cases hl
     have HD:=hide (decode_ascii s pos hp hlow);have HL:=hide hl;clear hlow
     go_wp2_with (go_at_call 275;refine(isLetter_any _ _).mono ?_;rintro e w1 ⟨rfl,rfl⟩)
     refine⟨⟨pos+(Utf8.decode s pos).2,hit2,hb2,?_⟩,?_⟩
     ·have hl2:=uh HL
      rw[uh HD] at hl2⊢;rw[take_snoc s pos hp,List.all_append,uh HA]
      simpa [letterI_byte] using hl2
     ·simp only[World.iterPos,hit2,hit]
      omega
    ·have HL:=hide hl
     go_wp2_with (go_at_call 275;refine(isLetter_any _ _).mono ?_;rintro e w1 ⟨rfl,rfl⟩)
     go_ret
     refine⟨ret_bool (isName_at s (uh HE) h16' pos hp ?_).symm,hb2⟩
     rcases Nat.lt_or_ge (s[pos]'hp).toNat 128 with h|h
     ·have hl2:=uh HL
      rw[decode_ascii s pos hp h] at hl2
      simpa [letterI_byte] using hl2
     ·exact high_not _ h
   ·have hnx:∀ty,(Instr.next (.pointer (some ⟨w.heap.size,0,none⟩)) true ty).run Tryz.prog wr=_:=fun ty=>Lib.run_next_end_at wr w.heap.size s pos ty hit hp
    go_wp2
    go_ret
    exact⟨ret_bool (isName_end s (uh HE) h16' pos hp (uh HA)).symm,hb⟩
def strLen:Value→Nat
 | .string t=>t.size
 |_=>0
theorem data_cons (t:ByteArray) (h:0<t.size):t.data.toList=t[0]::(t.extract 1 t.size).data.toList:=by
 rw[Lib.extract_to_end];have hl:0<t.data.toList.length:=by rw[←Lib.size_eq];exact h
 have:=List.drop_eq_getElem_cons hl;rw[List.drop_zero] at this;exact this
end Go.Proofs.YtjelacjggijmfaaGreatDoor
