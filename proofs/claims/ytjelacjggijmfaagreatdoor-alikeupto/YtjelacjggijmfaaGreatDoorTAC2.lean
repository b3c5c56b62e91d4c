/-
  Alike of package makerkeep: rules and their plain form do the same in every world, or are refused for the same reason (what is too long aside). Proved of all arguments whose values and letters together, with what the listed tables hold, come to at most 1048576.
-/
import Derived.Test.YtjelacjggijmfaaGreatDoorTXC
import Derived.Test.YtjelacjggijmfaaGreatDoorTAK5
import Derived.Deep.DeepHandedRow
import Derived.Lib.LaidTab
namespace Go.Proofs.YtjelacjggijmfaaGreatDoor
open Go.ChangeShapes Go.WideShapes Go.ChangeAt Go.RowKit
open Go.ChangeMaps (open_string shut_string)
set_option maxRecDepth 100000 in
theorem alike_contract (H:Type) (enc:TypeId×Value→H) (W:World) (base:Nat) (args:Array Value) (ds gs:List (DataW H)) (before:List MemPlace)
 (hval:∀(j:Nat) t v,Tryz.f5.params[j]?=some t→args[j]?=some v→Value.okWide Tryz.prog W .any base t v)
 (hW:DataW.Whole enc Tryz.prog Tryz.f5.params.toList Rows.alikeSpec.vars false W args.toList ds gs before)
 (hk:Rows.uptoSmall H (ds++gs)=true) (hsh:W.ShapedOpen Tryz.prog):
 Calls Tryz.prog 5 args W fun e W' =>∃v,e= .returned v∧Rows.alikeSpec.post enc Tryz.prog Tryz.f5 false true false false W args v W' :=by
 have hW' :=hW;obtain⟨p,q,hA0,hV,rfl,hfz,hnd⟩:=hW;have hA:DataW.TrodAll enc Tryz.prog W 0 (fun _=>true) true Tryz.f5.params.toList args.toList ds p:=hA0;rw[Tryz.params5] at hA hval;obtain⟨v0,vs0,d0,ds0,p0,q0,hargs,rfl,rfl,h0,r0⟩:=trodAll_cons hA;obtain⟨v1,vs1,d1,ds1,p1,q1,rfl,rfl,rfl,h1,r1⟩:=trodAll_cons r0;obtain⟨v2,vs2,d2,ds2,p2,q2,rfl,rfl,rfl,h2,r2⟩:=trodAll_cons r1
 obtain⟨v3,vs3,d3,ds3,p3,q3,rfl,rfl,rfl,h3,r3⟩:=trodAll_cons r2;obtain⟨v4,vs4,d4,ds4,p4,q4,rfl,rfl,rfl,h4,r4⟩:=trodAll_cons r3;obtain⟨rfl,rfl,rfl⟩:=trodAll_nil r4;obtain rfl:args= #[v0,v1,v2,v3,v4]:=by cases args;simp_all
 obtain⟨rfl,rfl⟩:=trodVars_none hV;obtain⟨s,rfl,rfl,rfl,hs⟩:=open_string Tryz.underlying9 (hval 0 9 v0 rfl rfl) h0;obtain⟨g,rfl,rfl,rfl,hgl⟩:=open_string Tryz.underlying9 (hval 1 9 v1 rfl rfl) h1;obtain⟨a1,n1,c1,rfl⟩:=okWide_slice Tryz.underlying27 (hval 2 27 v2 rfl rfl);obtain⟨a2,n2,c2,rfl⟩:=okWide_slice Tryz.underlying51 (hval 3 51 v3 rfl rfl)
 obtain⟨z,rfl,rfl,rfl,hz⟩:=open_int Tryz.underlying3 (hval 4 3 v4 rfl rfl) h4;clear hA0;have hlt:∀x,x∈p2∨x∈p3→x.block<W.heap.size:=fun x hx=>hW'.lt x (by simpa using hx)
 obtain⟨fu1,g1⟩:=h2;obtain⟨fu2,g2⟩:=h3;obtain⟨fs,hfs⟩:=open_files5 g1;obtain⟨ef,hef⟩:=open_effs g2;simp only[List.append_nil] at hW';have hb:=of_decide_eq_true hk;simp only[List.append_nil,Rows.uptoBulkAll,Rows.uptoBulk] at hb;have hl1:=hfs.sum;have hl2:=hef.len;simp only at hl1 hl2;obtain⟨a,cap,b,o,e1,k1⟩:=hfs.at';obtain⟨ae,ce,be,oe,e2,k2⟩:=hef.at'
 have e1' :=e1;have e2' :=e2;cases e1';cases e2';have hm:(⟨s.data.toList.toArray⟩:ByteArray)=s:=(mk_eq (t:=s) rfl).symm;have hm2:(⟨g.data.toList.toArray⟩:ByteArray)=g:=(mk_eq (t:=g) rfl).symm;have hfl:=sumF_len fs;have hwr:∀e∈ef,e.writes.length≤(ef.flatMap (·.writes)).length:=fun e he=>flat_leE he
 have walk:=alike_any s.data.toList g.data.toList fs (by omega) ef (fs.map (·.path)++(ef.flatMap (·.writes)).map (·.path)) a1 a2 c1 b o c2 W.heap.size be oe z W k1 (fun h=>(k2 h).1) (fun h=>⟨(k2 h).2,Nat.le_refl _⟩) (by omega) (fun e he=>by have:=hwr e he;omega) (by simp only[List.length_append,List.length_map];omega)
  (fun f hf=>List.mem_append_left _ (List.mem_map_of_mem hf)) (fun e he f hf=>List.mem_append_right _ (List.mem_map_of_mem (List.mem_flatMap_of_mem he hf))) (fun x hx=>by
   rcases List.mem_append.1 hx with h|h
   ·obtain⟨f,hf,rfl⟩:=List.mem_map.1 h
    exact hfs.path f hf
   ·obtain⟨f,hf,rfl⟩:=List.mem_map.1 h
    obtain⟨e,he,hf⟩:=List.mem_flatMap.1 hf
    exact hef.path e he f hf) (glob_shaped W hsh)
 rw[hm,hm2] at walk;refine walk.mono fun e W' ⟨he,hn⟩=> ?_
 subst he
 exact⟨_,rfl,_,_,_,_,_,_,hW',trodAll_cons_mk (shut_bool Tryz.underlying4 _) trodAll_mk0,trodAll_cons_mk (shut_string Tryz.underlying9 hs) (trodAll_cons_mk (shut_string Tryz.underlying9 hgl) (trodAll_cons_mk (Below.trod Tryz.laidOut (by kernel_rfl) (of_decide_eq_true (by kernel_rfl)) ⟨fu1,g1⟩ hn (fun x hx=>hlt x (.inl hx))) (trodAll_cons_mk (Below.trod Tryz.laidOut (by kernel_rfl) (of_decide_eq_true (by kernel_rfl)) ⟨fu2,g2⟩ hn (fun x hx=>hlt x (.inr hx))) (trodAll_cons_mk (shut_int Tryz.underlying3 hz) trodAll_mk0)))),rfl,hn.frame _,fun h=>by cases h⟩
end Go.Proofs.YtjelacjggijmfaaGreatDoor
