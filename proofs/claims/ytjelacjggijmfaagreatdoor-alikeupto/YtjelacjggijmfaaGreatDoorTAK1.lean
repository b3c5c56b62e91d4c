/-
  Alike: the files with rules and with their plain form.
-/
import Derived.Test.YtjelacjggijmfaaGreatDoorTXA
namespace Go.Proofs.YtjelacjggijmfaaGreatDoor
open Go.RowKit
def offR (fs:List Pl.File):List Pl.File:=fs.filter (fun f=> !(f.path==[82]))
def wR (fs:List Pl.File) (t:Pl.Bs):List Pl.File:=offR fs++[⟨[82],t,0⟩]
theorem fqs_R (fs:List Pl.File) (t s:Pl.Bs):Pl.Fqs [82] t s (wR fs t) (wR fs s):=(Pl.Fqs.refl _).append (.cons ⟨rfl,rfl,.inr ⟨rfl,rfl,rfl⟩⟩ .nil)
theorem flike_R (fs:List Pl.File) {t:Pl.Bs} (h0:(Mk.plainOf t).2.1=0):FLike ((wR fs t).foldl Pl.addF []) ((wR fs (Mk.plainOf t).1).foldl Pl.addF []):=fun p=>by
 rcases((fqs_R fs t (Mk.plainOf t).1).adds .nil).look p with h|⟨g,g',h1,h2,h3⟩
 ·exact .inl h
 ·refine .inr ⟨g,g',h1,h2,?_,h3.2.1⟩
  rcases h3.2.2 with e|⟨-,e1,e2⟩
  ·exact .inl e
  ·exact .inr ⟨by rw[e1];exact h0,by rw[e1,e2]⟩
theorem adds_sumP:∀(fs acc:List Pl.File),sumP (fs.foldl Pl.addF acc)≤sumP acc+sumP fs∧∀f∈fs.foldl Pl.addF acc,f∈acc∨f∈fs
 |[],acc=>⟨Nat.le_refl _,fun f hf=> .inl hf⟩
 |g::r,acc=>by
  obtain⟨h1,h2⟩:=adds_sumP r (Pl.addF acc g);rw[List.foldl_cons,sumP]
  have h3:sumP (Pl.addF acc g)≤sumP acc+g.path.length∧∀f∈Pl.addF acc g,f∈acc∨f=g:=by
   unfold Pl.addF;split
   ·exact⟨Nat.le_add_right _ _,fun f hf=> .inl hf⟩
   ·refine⟨by rw[sumP_append];simp[sumP],fun f hf=> ?_⟩
    rcases List.mem_append.1 hf with e|e
    ·exact .inl e
    ·exact .inr (List.mem_singleton.1 e)
  refine⟨by omega,fun f hf=> ?_⟩
  rcases h2 f hf with e|e
  ·rcases h3.2 f e with q|q
   ·exact .inl q
   ·exact .inr (by rw[q];exact List.mem_cons_self ..)
  ·exact .inr (List.mem_cons_of_mem _ e)
theorem fsOk2 {fs0:List Pl.File} (hl:fs0.length≤8388608) (hp:sumP fs0≤1048576) (hpl:∀f∈fs0,f.path.length≤8388608) (ht:∀f∈fs0,f.text.length≤19000000) (path goal:Pl.Bs):FsOk fs0 path goal∧NmB (bookF (fs0.foldl Pl.addF []) path).2.2 (fs0.foldl Pl.addF []) (goalF (bookF (fs0.foldl Pl.addF []) path).2.2 goal) 64000:=by
 obtain⟨h1,h2⟩:=adds_sumP fs0 [];have hin:∀f∈fs0.foldl Pl.addF [],f∈fs0:=fun f hf=>(h2 f hf).resolve_left (fun q=>by cases q)
 have hT:∀p g,Pl.look (fs0.foldl Pl.addF []) p=some g→g.text.length+1≤19000001∧g.text.length≤1073741824:=fun p g h=>by
  have:=ht g (hin g (List.mem_of_find?_eq_some h));omega
 obtain⟨k,hok,-⟩:=book_ok hT path;have hnm:=nmb_any (fs:=fs0.foldl Pl.addF []) hok (tgs_book _ _) (pcs_book _ _) (by simp only[sumP] at h1;omega) (goalF (bookF (fs0.foldl Pl.addF []) path).2.2 goal);have ha:=add_len fs0 [];simp only[List.length_nil] at ha;exact⟨⟨by omega,⟨19000001,by decide,hT⟩,by omega,fun f hf=>hpl f (hin f hf),64000,by decide,hnm⟩,hnm⟩
theorem sumP_le:∀fs:List Pl.File,sumP fs≤sumF fs
 |[]=>Nat.le_refl _
 |f::r=>by
  have:=sumP_le r;rw[sumP,sumF];omega
theorem off_sum:∀fs:List Pl.File,sumF (offR fs)≤sumF fs
 |[]=>Nat.le_refl _
 |f::r=>by
  have:=off_sum r;unfold offR at*;rw[List.filter_cons];split
  ·rw[sumF,sumF];omega
  ·rw[sumF];omega
theorem wR_ok {fs:List Pl.File} {t s:Pl.Bs} (h:sumF fs+t.length+2≤1048576) (hs:s.length≤12*(t.length+1)) (path goal:Pl.Bs):FsOk (wR fs s) path goal∧NmB (bookF ((wR fs s).foldl Pl.addF []) path).2.2 ((wR fs s).foldl Pl.addF []) (goalF (bookF ((wR fs s).foldl Pl.addF []) path).2.2 goal) 64000:=by
 have h1:=off_sum fs;have h2:=sumF_len (offR fs);have h3:=sumP_le (offR fs)
 have hm:∀f∈wR fs s,f.path.length≤1048576∧f.text.length≤19000000:=fun f hf=>by
  rcases List.mem_append.1 hf with e|e
  ·have:=sumF_mem e
   omega
  ·rw[List.mem_singleton.1 e]
   refine⟨show 1≤1048576 by decide,?_⟩;show s.length≤_;omega
 refine fsOk2 ?_ ?_ (fun f hf=> ?_) (fun f hf=>(hm f hf).2) path goal
 ·unfold wR;rw[List.length_append,List.length_singleton];omega
 ·unfold wR;rw[sumP_append];simp only[sumP,List.length_cons,List.length_nil];omega
 ·have:=(hm f hf).1
  omega
end Go.Proofs.YtjelacjggijmfaaGreatDoor
