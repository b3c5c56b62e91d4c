/-
  Alike: what Make leaves of rules and of their plain form; the text set right.
-/
import Derived.Test.YtjelacjggijmfaaGreatDoorTAK1
import Derived.Test.YtjelacjggijmfaaGreatDoorTXA
namespace Go.Proofs.YtjelacjggijmfaaGreatDoor
open Go.RowKit
structure MkO (B:Nat) (cs:List Pl.Bs) (fl:List Pl.File) (vc vr:Value) (w:World):Prop where
 c:Strs w B vc cs
 f:AFls w B vr fl
theorem MkO.later {B:Nat} {cs:List Pl.Bs} {fl:List Pl.File} {vc vr:Value} {w w' :World} (h:MkO B cs fl vc vr w) (hb:Below w.heap.size w w'):MkO B cs fl vc vr w' :=
 ⟨own_same h.c (fun k hk=>hb.block k (World.ownsRow.lt h.c k hk).2),own_same h.f (fun k hk=>hb.block k (World.ownsRow.lt h.f k hk).2)⟩
theorem MkO.none (B:Nat) (w:World):MkO B [] [] (.slice none 0 0) (.slice none 0 0) w:=⟨World.ownsRow_nil _ _ _ _,World.ownsRow_nil _ _ _ _⟩
theorem make_out {fs0:List Pl.File} {goal:Pl.Bs} {ef:List Pl.Eff} {clock:Int} {W W' :World} {e:Ending} (h:MakeP fs0 [82] goal ef clock W e W'):
 Below W.heap.size W W' ∧∃r,TextR (fs0.foldl Pl.addF []) [82] goal r∧((r.2.1≠0∧e= .returned (.tuple #[zRes,.int .i64 (r.2.1:Int),.int .i64 (r.2.2:Int)]))∨
  (r.2.1=0∧∃T c vc vr,Pl.load r.1=some (T,c)∧e= .returned (.tuple #[.agg #[vc,vr,.int .i64 (Pl.runW c T ef (Pl.newW fs0 clock)).exit,.int .i64 (Pl.runW c T ef (Pl.newW fs0 clock)).clock],.int .i64 0,.int .i64 0])∧
   MkO W.heap.size (Pl.runW c T ef (Pl.newW fs0 clock)).cmds (Pl.sortF (Pl.runW c T ef (Pl.newW fs0 clock)).files) vc vr W')):=by
 obtain⟨hb,r,h1,h2⟩:=h;refine⟨hb,r,h1,?_⟩
 rcases h2 with h2|⟨h2,v,er,rfl,h3⟩
 ·exact .inl h2
 ·refine .inr ⟨h2,?_⟩
  obtain⟨-,q,k,ss,-,-,-,-,-,-,h4⟩:=h1.plan h2;obtain⟨T,c,k1,k2,-⟩:=plan_is h4
  rcases h3 with⟨h3,-⟩|⟨ss',c',vc,vr,m1,-,m3,m4,m5⟩
  ·exact absurd k2 h3
  ·cases m3
   exact⟨ss',c',vc,vr,m1,rfl,m4,m5⟩
theorem run_alike (fs:List Pl.File) (t s c:Pl.Bs) (T:List Pl.Bs) (ef:List Pl.Eff) (clock:Int):Pl.Wq [82] t s (Pl.runW c T ef (Pl.newW (wR fs t) clock)) (Pl.runW c T ef (Pl.newW (wR fs s) clock)):=
 Pl.Wq.exec c T ef _ _ _ _ _ _ ⟨(fqs_R fs t s).adds .nil,rfl,rfl,rfl⟩
def mixF (fl fl' :List Pl.File) (i:Nat):List Pl.File:=fl'.take i++fl.drop i
section
variable {p t s:Pl.Bs} {fl fl' :List Pl.File}
theorem mix_len (h:fl'.length=fl.length) {i:Nat} (hi:i≤fl.length):(mixF fl fl' i).length=fl.length:=by
 unfold mixF;rw[List.length_append,List.length_take,List.length_drop];omega
theorem mix_at (h:fl'.length=fl.length) {i:Nat} (hi:i<fl.length):(mixF fl fl' i)[i]?=some fl[i]:=by
 unfold mixF;rw[List.getElem?_append_right (by rw[List.length_take];omega),List.length_take,List.getElem?_drop,show i+(i-min i fl'.length)=i by omega];exact List.getElem?_eq_getElem hi
theorem mix_next (h:fl'.length=fl.length) {i:Nat} (hi:i<fl.length):mixF fl fl' (i+1)=(mixF fl fl' i).set i (fl'[i]'(by omega)):=by
 unfold mixF;rw[List.set_append_right _ _ (by rw[List.length_take];omega),List.length_take,show i-min i fl'.length=0 by omega,List.take_succ_eq_append_getElem (by omega),List.append_assoc]
 congr 1
 rw[List.drop_eq_getElem_cons hi];rfl
theorem mix_end (h:fl'.length=fl.length):mixF fl fl' fl.length=fl' :=by
 unfold mixF;rw[List.drop_length,←h,List.take_length,List.append_nil]
theorem mix_zero:mixF fl fl' 0=fl:=by unfold mixF;rfl
end
theorem filesC_text (fs:List Pl.File) (t:Pl.Bs):∀(k:Nat) (h:k<fs.length),(filesC fs).set (k*3+1) (strV t)=filesC (fs.set k {fs[k] with text:=t}):=fun k h=>by
 rw[←filesC_set fs {fs[k] with text:=t} k h];obtain⟨h0,h1,h2⟩:=filesC_get fs k h;apply List.ext_getElem?;intro i;simp only[List.getElem?_set,List.length_set];have hl:=filesC_length fs
 by_cases e2:k*3+2=i
 ·subst e2
  rw[if_neg (by omega),if_pos rfl,if_pos (by omega),h2]
 ·rw[if_neg e2]
  by_cases e1:k*3+1=i
  ·rw[if_pos e1,if_pos e1]
  ·rw[if_neg e1,if_neg e1]
   by_cases e0:k*3=i
   ·subst e0
    rw[if_pos rfl,if_pos (by omega),h0]
   ·rw[if_neg e0]
structure FxI (B:Nat) (w:World) (v:Value) (l:List Pl.File) (wr:World):Prop where
 low:Below 0 w wr
 size:wr.heap.size=w.heap.size
 oth:∀q,some q≠v.ownBlock→wr.heap[q]?=w.heap[q]?
 own:AFls wr B v l
theorem FxI.new {B:Nat} {w:World} {v:Value} {l:List Pl.File} (h:AFls w B v l):FxI B w v l w:=⟨Below.refl _ _,rfl,fun _ _=>rfl,h⟩
theorem FxI.drawn {B:Nat} {w wr:World} {v:Value} {l:List Pl.File} (h:FxI B w v l wr):FxI B w v l wr.drew:=⟨⟨h.low.os,h.low.tape,h.low.output,h.low.size,h.low.block⟩,h.size,h.oth,own_same h.own fun _ _=>rfl⟩
theorem FxI.set {B:Nat} {w wr:World} {g n cap:Nat} {l:List Pl.File} (h:FxI B w (.slice (some ⟨g,0,none⟩) n cap) l wr) (hn:l.length=n) {k:Nat} (hk:k<l.length) (t:Pl.Bs):FxI B w (.slice (some ⟨g,0,none⟩) n cap) (l.set k {l[k] with text:=t}) (wr.setCell ⟨g,k*3+1,none⟩ (strV t)):=by
 subst hn;refine⟨h.low.setCell (p:=⟨g,k*3+1,none⟩) (Nat.zero_le _) _,?_,fun q hq=> ?_,?_⟩
 ·rw[←h.size];simp[World.setCell]
 ·rw[Below.heap_setCell _ _ _ _ (fun e=>hq (by rw[e];rfl))]
  exact h.oth q hq
 ·show World.ownsRow _ _ _ _ _ _ _
  rw[←filesC_text l t k hk,List.length_set];exact owns_set h.own (k*3+1) (strV t)
end Go.Proofs.YtjelacjggijmfaaGreatDoor
