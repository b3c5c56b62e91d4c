/-
  Alike: two rows of files, side by side.
-/
import Derived.Test.YtjelacjggijmfaaGreatDoorTAK2
import Derived.Maps.AppendAt
namespace Go.Proofs.YtjelacjggijmfaaGreatDoor
open Go.RowKit
structure TwoI (w:World) (va:Value) (la:List Pl.File) (vb:Value) (lb:List Pl.File) (wr:World):Prop where
 below:Below w.heap.size w wr
 a:AFls wr w.heap.size va la
 b:AFls wr w.heap.size vb lb
 ap:∀k,va.ownBlock=some k→vb.ownBlock≠some k
section
variable {w wr w1:World} {va v1 vb:Value} {la lb:List Pl.File}
theorem TwoI.swap (h:TwoI w va la vb lb wr):TwoI w vb lb va la wr:=⟨h.below,h.b,h.a,fun k h1 h2=>h.ap k h2 h1⟩
theorem TwoI.drawn (h:TwoI w va la vb lb wr):TwoI w va la vb lb wr.drew:=⟨⟨h.below.os,h.below.tape,h.below.output,h.below.size,h.below.block⟩,own_same h.a fun _ _=>rfl,own_same h.b fun _ _=>rfl,h.ap⟩
theorem TwoI.push {o:Obj} {f:Pl.File} (h:TwoI w va la vb lb wr) (hg:(wr.alloc o).grownBy w1 va.ownBlock) (hown:w1.ownsRow w.heap.size 65 3 v1 (la.length+1) (filesC la++fileC f)) (hat:v1.ownBlock=va.ownBlock∨v1.ownBlock=some (wr.alloc o).heap.size):TwoI w v1 (la++[f]) vb lb w1:=by
 have hg' :=(World.grownBy_alloc wr o va.ownBlock).trans hg;refine⟨h.below.trans ⟨hg'.os,hg'.tape,hg'.output,hg'.size,fun q hq=>hg'.block q (by have:=h.below.size;omega) (own_ne h.a hq)⟩,?_,?_,fun k h1 h2=> ?_⟩
 ·show World.ownsRow _ _ _ _ _ _ _
  rw[filesC_snoc,List.length_append];exact hown
 ·refine World.ownsRow.kept h.b hg' ?_
  cases hv:vb.ownBlock with
  |none=>exact .inl rfl
  |some k=>exact .inr fun e=>h.ap k e.symm hv
 ·have hlt:=World.ownsRow.lt h.b k h2
  rcases hat with e|e
  ·exact h.ap k (by rw[←e];exact h1) h2
  ·rw[h1] at e
   cases e;rw[World.size_alloc] at hlt;omega
end
theorem two_new (w:World):TwoI w (.slice none 0 0) [] (.slice none 0 0) [] w:=⟨Below.refl _ _,World.ownsRow_nil _ _ _ _,World.ownsRow_nil _ _ _ _,fun k h=>by cases h⟩
theorem TwoI.later {w w1 w2:World} {va vb:Value} {la lb:List Pl.File} (h:TwoI w va la vb lb w1) (hb:Below w1.heap.size w1 w2):TwoI w va la vb lb w2:=
 ⟨h.below.trans (hb.mono h.below.size),own_same h.a (fun k hk=>hb.block k (World.ownsRow.lt h.a k hk).2),own_same h.b (fun k hk=>hb.block k (World.ownsRow.lt h.b k hk).2),h.ap⟩
theorem off_yes {fs:List Pl.File} {i:Nat} (h:i<fs.length) (hp:(fs[i].path==[82])=false):offR (fs.take (i+1))=offR (fs.take i)++[fs[i]]:=by
 unfold offR;rw[List.take_succ_eq_append_getElem h,List.filter_append];simp[hp]
theorem off_no {fs:List Pl.File} {i:Nat} (h:i<fs.length) (hp:(fs[i].path==[82])=true):offR (fs.take (i+1))=offR (fs.take i):=by
 unfold offR;rw[List.take_succ_eq_append_getElem h,List.filter_append];simp[hp]
theorem off_len (fs:List Pl.File) (i:Nat):(offR (fs.take i)).length≤fs.length:=by
 unfold offR;have h1:=List.length_filter_le (fun f:Pl.File=> !(f.path==[82])) (fs.take i);rw[List.length_take] at h1;omega
theorem wR_pos (fs:List Pl.File) (t:Pl.Bs):0<(wR fs t).length:=by unfold wR;simp
theorem own_at {w:World} {B e b n cap:Nat} {fs:List Pl.File} (h:w.ownsRow B e 3 (.slice (some ⟨b,0,none⟩) n cap) fs.length (filesC fs)) (hp:0<fs.length):RdF w b 0 fs∧b<w.heap.size:=by
 obtain⟨a,c,b',e,h1,h2,h3⟩:=own_files h;cases e;cases h1 hp;exact⟨h3,h2 hp⟩
section
variable {B g cap i:Nat} {w wr:World} {p t s:Pl.Bs} {fl fl' :List Pl.File}
theorem FxI.cells (h:FxI B w (.slice (some ⟨g,0,none⟩) fl.length cap) (mixF fl fl' i) wr) (hl:fl'.length=fl.length) (hi:i<fl.length):wr.cell? ⟨g,i*3,none⟩=some (strV fl[i].path)∧wr.cell? ⟨g,i*3+1,none⟩=some (strV fl[i].text)∧wr.frozen? ⟨g,i*3+1,none⟩=false:=by
 have hml:=mix_len hl (Nat.le_of_lt hi);have hmi:=mix_at hl hi;obtain⟨p0,p1,-⟩:=(own_at (n:=fl.length) h.own (by omega)).1 i (by omega);rw[List.getElem?_eq_getElem (by omega)] at hmi;rw[Option.some.inj hmi,Nat.zero_add] at p0 p1;have hown:=h.own;unfold AFls at hown;rw[hml] at hown;exact⟨p0,p1,own_frozen hown _⟩
theorem FxI.fix (h:FxI B w (.slice (some ⟨g,0,none⟩) fl.length cap) (mixF fl fl' i) wr) (hl:fl'.length=fl.length) (hi:i<fl.length) (hi' :i<fl'.length) (hq:Pl.Fq p t s fl[i] fl'[i]):FxI B w (.slice (some ⟨g,0,none⟩) fl.length cap) (mixF fl fl' (i+1)) (wr.setCell ⟨g,i*3+1,none⟩ (strV fl'[i].text)):=by
 have hml:=mix_len hl (Nat.le_of_lt hi);have hmi:=mix_at hl hi;rw[List.getElem?_eq_getElem (by omega)] at hmi;have h1:=h.set hml (k:=i) (by omega) fl'[i].text;rw[mix_next hl hi]
 have e:({(mixF fl fl' i)[i]'(by omega) with text:=fl'[i].text}:Pl.File)=fl'[i]:=by
  rw[Option.some.inj hmi];obtain⟨q1,q2,-⟩:=hq;generalize fl[i]=a at*;generalize fl'[i]=b at*;cases a;cases b;simp only at q1 q2⊢;rw[q1,q2]
 rw[e] at h1;exact h1
theorem FxI.skip (h:FxI B w (.slice (some ⟨g,0,none⟩) fl.length cap) (mixF fl fl' i) wr) (hl:fl'.length=fl.length) (hi:i<fl.length) (hi' :i<fl'.length) (he:fl'[i]=fl[i]):FxI B w (.slice (some ⟨g,0,none⟩) fl.length cap) (mixF fl fl' (i+1)) wr:=by
 have hmi:=mix_at hl hi;rw[mix_next hl hi]
 have e:(mixF fl fl' i).set i fl'[i]=mixF fl fl' i:=by
  apply List.ext_getElem?;intro k;rw[List.getElem?_set];split
  ·rename_i q
   subst q;split
   ·rw[hmi,he]
   ·rename_i q
    rw[List.getElem?_eq_none (by omega)]
  ·rfl
 rw[e];exact h
end
end Go.Proofs.YtjelacjggijmfaaGreatDoor
