/-
  The laws on webs: what Stopped and Quiet ask besides.
-/
import Derived.Test.YtjelacjggijmfaaGreatDoorTZR
namespace Go.Proofs.YtjelacjggijmfaaGreatDoor
open Go.RowKit
theorem wNms_nodup:∀l:List Nat,l.Nodup→(∀i∈l,i<12)→(l.map wNm).Nodup
 |[],_,_=>List.nodup_nil
 |x::r,h,hl=>by
  rw[List.nodup_cons] at h;rw[List.map_cons,List.nodup_cons];refine⟨fun q=> ?_,wNms_nodup r h.2 fun i hi=>hl i (List.mem_cons_of_mem _ hi)⟩;obtain⟨y,hy,e⟩:=List.mem_map.1 q;exact h.1 ((wNm_inj (hl y (List.mem_cons_of_mem _ hy)) (hl x (List.mem_cons_self ..)) e)▸hy)
theorem ovW_len (N:List Int) (g:Nat) (fs:List Pl.File) (goal:Pl.Bs):(ovW N g fs goal).length≤12:=by
 unfold ovW;split
 ·rename_i h
  obtain⟨r,-,h2⟩:=h.choose_spec;have:=few_all h2.ovOk.nd h2.ovOk.lt;have:=(many_le N).2;omega
 ·exact Nat.zero_le _
theorem pick_lt (c:Int) {n:Nat} (hn:0<n):pickI c n<n:=by
 unfold pickI;have h1:=Int.emod_lt_of_pos (absI c) (show (0:Int)<(n:Int) by omega);have h2:=Int.emod_nonneg (absI c) (show (n:Int)≠0 by omega);omega
theorem goal_is (N:List Int) (g:Nat):goalF (webS (JW N) (manyW N)) (Mk.nmB g)=Mk.nmB g:=by
 unfold goalF;rw[if_neg (by unfold Mk.nmB;simp)]
theorem goal_none (N:List Int):goalF (webS (JW N) (manyW N)) []=Mk.nmB 0:=by
 have hm:=many_le N;unfold goalF webS;rw[if_pos rfl];show(if manyW N=0 then [] else Mk.nmB 0)=_;rw[if_neg (by omega)]
theorem ls_all (N:List Int) (g:Nat) (fs:List Pl.File) (goal:Pl.Bs):lsW N (fun _=>0) g fs goal=(ovW N g fs goal).filter (stW N fs):=upTo_all _
theorem ls_len (N:List Int) (g:Nat) (fs fs' :List Pl.File) (goal:Pl.Bs):((ovW N g fs goal).filter (stW N fs')).length≤12:=Nat.le_trans (List.length_filter_le _ _) (ovW_len N g fs goal)
theorem put_pos:∀(fs:List Pl.File) (f:Pl.File),0<(Pl.putF fs f).length
 |[],f=>by simp[Pl.putF]
 |g::r,f=>by unfold Pl.putF;split<;>simp
theorem mkF_pos (tx:Pl.Bs):∀(l:List Nat) (k:Int) (fs:List Pl.File),0<fs.length→0<(mkF tx l k fs).length
 |[],_,_,h=>h
 |_::r,k,_,_=>mkF_pos tx r (k+1) _ (put_pos _ _)
theorem sort_len (fs:List Pl.File):(Pl.sortF fs).length=fs.length:=(sortF_perm fs).length_eq
theorem fl_len (l:List Nat) (k:Int) (fs:List Pl.File) (hl:l.length≤12):(Pl.sortF (mkF madeB l k fs)).length≤sumF fs+84:=by
 rw[sort_len];have h1:=sumF_len (mkF madeB l k fs);have h2:=mkF_sum l k fs;omega
theorem web_quietly {N:List Int} {fs:List Pl.File} {ck:Int} {B g:Nat} (hF:WFs N fs ck B) (hS:∃X,Pl.Uniq X∧fs=Pl.sortF X) (hst:∀i,Rch (JW N) g i→stW N fs i=false) (hB:B≤1048576) (hck:0≤ck∧ck≤900000) (hg:g<manyW N) {goal:Pl.Bs} (hgl:goalF (webS (JW N) (manyW N)) goal=Mk.nmB g) (cap b ce L be:Nat) (W:World)
 (hr:RdF W b 0 fs) (hbw:b<W.heap.size) (hgb:Glob W) (hE:RdE W L be 0 (doesW N fun _=>0)) (hL:L≤W.heap.size):
 Calls Tryz.prog 20 #[.slice (some ⟨b,0,none⟩) fs.length cap,.string ⟨#[82]⟩,.string ⟨goal.toArray⟩,.slice (some ⟨be,0,none⟩) (manyW N) ce,.int .i64 ck] W fun e w' =>([]:List Pl.Bs).length=0∧∃a1 c1 b1 a2 c2 b2,e= .returned (.tuple #[.agg #[.slice a1 ([]:List Pl.Bs).length c1,.slice a2 fs.length c2,.int .i64 0,.int .i64 ck],.int .i64 0,.int .i64 0])∧Res [] fs a1 a2 b1 b2 w' ∧((0<([]:List Pl.Bs).length→W.heap.size≤b1)∧(0<fs.length→W.heap.size≤b2))∧Below W.heap.size W w' :=by
 have C:=web_make hF hB hck hg hgl (fun _=>0) (some ⟨b,0,none⟩) (some ⟨be,0,none⟩) cap b 0 ce L be 0 W (fun _=>rfl) hr hbw hgb hE hL rfl;rw[ls_all,lastEx_all] at C;refine C.mono ?_
 rintro e w2 ⟨h1,a1,c1,b1,a2,c2,b2,h2,h3,h4,h5⟩
 have e0:(ovW N g fs goal).filter (stW N fs)=[]:=filter_none fun i hi=>hst i ((h1.all i).1 hi)
 have e1:Pl.sortF (mkF madeB [] ck fs)=fs:=by
  obtain⟨X,hX,rfl⟩:=hS;exact sort_idem hX
 rw[e0,List.map_nil,e1] at h2 h3 h4;refine⟨rfl,a1,c1,b1,a2,c2,b2,?_,h3,h4,h5⟩;rw[h2];simp
theorem web_making {N:List Int} {fs:List Pl.File} {ck:Int} {B g:Nat} (hF:WFs N fs ck B) (hB:B≤1048576) (hck:0≤ck∧ck≤900000) (hg:g<manyW N) {goal:Pl.Bs} (hgl:goalF (webS (JW N) (manyW N)) goal=Mk.nmB g) (cap b ce L be:Nat) (W:World)
 (hr:RdF W b 0 fs) (hbw:b<W.heap.size) (hgb:Glob W) (hE:RdE W L be 0 (doesW N fun _=>0)) (hL:L≤W.heap.size):
 Calls Tryz.prog 20 #[.slice (some ⟨b,0,none⟩) fs.length cap,.string ⟨#[82]⟩,.string ⟨goal.toArray⟩,.slice (some ⟨be,0,none⟩) (manyW N) ce,.int .i64 ck] W fun e w' =>OvOk N g (ovW N g fs goal)∧∃a1 c1 b1 a2 c2 b2,e= .returned (.tuple #[.agg #[.slice a1 (((ovW N g fs goal).filter (stW N fs)).map wNm).length c1,.slice a2 (Pl.sortF (mkF madeB ((ovW N g fs goal).filter (stW N fs)) ck fs)).length c2,.int .i64 0,.int .i64 (ck+((ovW N g fs goal).filter (stW N fs)).length)],.int .i64 0,.int .i64 0])∧Res (((ovW N g fs goal).filter (stW N fs)).map wNm) (Pl.sortF (mkF madeB ((ovW N g fs goal).filter (stW N fs)) ck fs)) a1 a2 b1 b2 w' ∧((0<(((ovW N g fs goal).filter (stW N fs)).map wNm).length→W.heap.size≤b1)∧(0<(Pl.sortF (mkF madeB ((ovW N g fs goal).filter (stW N fs)) ck fs)).length→W.heap.size≤b2))∧Below W.heap.size W w' :=by
 have C:=web_make hF hB hck hg hgl (fun _=>0) (some ⟨b,0,none⟩) (some ⟨be,0,none⟩) cap b 0 ce L be 0 W (fun _=>rfl) hr hbw hgb hE hL rfl;rw[ls_all,lastEx_all] at C;exact C
end Go.Proofs.YtjelacjggijmfaaGreatDoor
