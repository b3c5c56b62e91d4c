/-
  Quiet of package makerkeep: true for all webs and goals.
-/
import Derived.Test.YtjelacjggijmfaaGreatDoorTQA1
import Derived.Test.YtjelacjggijmfaaGreatDoorTKXD
namespace Go.Proofs.YtjelacjggijmfaaGreatDoor
open Go.RowKit
theorem web_quiet {N T:List Int} {v:Value} {W:World} (h:WbM W v N T) (goal:Int) (hgr: -9223372036854775808≤goal∧goal≤9223372036854775807) (hgb:Glob W):
 Calls Tryz.prog 9 #[v,.int .i64 goal] W fun e w' =>e= .returned (.bool true)∧Below W.heap.size W w' :=by
 have h' :=h;obtain⟨⟨an,cn,bn,on,at',ct,bt,ot,rfl,-,-⟩,-,-,-,-⟩:=h';have hm:=many_le N;have hg:=pick_lt goal (n:=manyW N) (by omega);obtain⟨g,hgd⟩:∃g,g=pickI goal (manyW N):=⟨_,rfl⟩
 have CP:∀w',Calls Tryz.prog 31 #[.int .i64 goal,.int .i64 (manyW N:Int)] w' fun e w2=>e= .returned (.int .i64 (g:Int))∧w2=w' :=fun w' =>by rw[hgd];exact pick_any goal (manyW N) w' hgr (by omega) (by omega)
 rw[←hgd] at hg;clear hgd;obtain⟨F0,hF0⟩:∃F0,F0=filesW N T:=⟨_,rfl⟩;have w0:WFs N F0 100 600:=hF0▸web_fs N T;have hp0:0<F0.length:=by rw[hF0];unfold filesW;simp
 have hs0:=w0.sz;obtain⟨ls,hls⟩:∃ls,ls=(ovW N g F0 (Mk.nmB g)).filter (stW N F0):=⟨_,rfl⟩;have hl1:ls.length≤12:=by rw[hls];exact ls_len ..
 obtain⟨F1,hF1⟩:∃F1,F1=Pl.sortF (mkF madeB ls 100 F0):=⟨_,rfl⟩;have hu1:∃X,Pl.Uniq X∧F1=Pl.sortF X:=⟨_,mkF_uniq madeB ls 100 F0 w0.uq,hF1⟩;have hp1:0<F1.length:=by rw[hF1,sort_len];exact mkF_pos madeB ls 100 F0 hp0
 have hsm:F1.length≤1048576:=by have:=fl_len ls 100 F0 hl1;rw[←hF1] at this;omega
 obtain⟨ls3,hls3⟩:∃ls3,ls3=(ovW N 0 F1 []).filter (stW N F1):=⟨_,rfl⟩;have hl3:ls3.length≤12:=by rw[hls3];exact ls_len ..
 obtain⟨F3,hF3⟩:∃F3,F3=Pl.sortF (mkF madeB ls3 (100+ls.length) F1):=⟨_,rfl⟩;have hu3:Pl.Uniq F1→∃X,Pl.Uniq X∧F3=Pl.sortF X:=fun q=>⟨_,mkF_uniq madeB ls3 (100+ls.length) F1 q,hF3⟩
 have hp3:0<F3.length:=by rw[hF3,sort_len];exact mkF_pos madeB ls3 (100+ls.length) F1 hp1
 have m1:OvOk N g (ovW N g F0 (Mk.nmB g))→WFs N F1 (100+ls.length) (600+7*ls.length)∧∀i∈ovW N g F0 (Mk.nmB g),stW N F1 i=false:=fun q=>by
  obtain⟨n1,n2,-⟩:=q.small (stW N F0);rw[←hls] at n1 n2;rw[hF1];refine⟨w0.next (by decide) n1 n2 hm.2,?_⟩;rw[hls];exact made_made w0 (by decide) q
 have m3:OvOk N g (ovW N g F0 (Mk.nmB g))→OvOk N 0 (ovW N 0 F1 [])→WFs N F3 (100+ls.length+ls3.length) (600+7*ls.length+7*ls3.length)∧∀i∈ovW N 0 F1 [],stW N F3 i=false:=fun q q3=>by
  obtain⟨n1,n2,-⟩:=q3.small (stW N F1);rw[←hls3] at n1 n2;rw[hF3];refine⟨(m1 q).1.next (by omega) n1 n2 hm.2,?_⟩;rw[hls3];exact made_made (m1 q).1 (by omega) q3
 refine quiet_walk W an at' cn ct goal g hg (ovW N g F0 (Mk.nmB g)) (ovW N 0 F1 []) F1 F3 F3 (ls.map wNm) [] (ls3.map wNm) [] (100+ls.length) (100+ls.length+ls3.length) (100+ls.length+ls3.length) (by rw[List.length_map];exact hl1) (by rw[List.length_map];exact hl3) hp1 hp3 hsm (fun q q3=> ?_) (fun w' hb=>wbC (h.later hb)) CP (fun w' hb=>(lives_any w' (hgb.later hb)).mono fun e w2 q=>⟨q.1,q.2.1⟩) (fun w' cap b ce be L hb hf hfb hL hE=> ?_) (fun w' cap b ce be L hb hf hfb hL hE q=> ?_) (fun w' cap b ce be L hb hf hfb hL hE q=> ?_) (fun w' cap b ce be L hb hf hfb hL hE q q3=> ?_)
 ·rw[List.length_map,List.length_map,hls,hls3]
  exact two_few q q3 (m1 q).2
 ·rw[←hF0] at hf⊢
  have C:=web_making w0 (by decide) (by decide) hg (goal_is N _) cap b ce L be w' hf hfb (hgb.later hb) hE hL;rw[←hls,←hF1] at C;exact C
 ·exact web_quietly (m1 q).1 hu1 (fun i hi=>(m1 q).2 i ((q.all i).2 hi)) (by omega) (by omega) hg (goal_is N _) cap b ce L be w' hf hfb (hgb.later hb) hE hL
 ·have C:=web_making (m1 q).1 (by omega) (by omega) (show 0<manyW N by omega) (goal_none N) cap b ce L be w' hf hfb (hgb.later hb) hE hL
  rw[←hls3,←hF3] at C;exact C
 ·exact web_quietly (m3 q q3).1 (hu3 (m1 q).1.uq) (fun i hi=>(m3 q q3).2 i ((q3.all i).2 hi)) (by omega) (by omega) (show 0<manyW N by omega) (goal_none N) cap b ce L be w' hf hfb (hgb.later hb) hE hL
end Go.Proofs.YtjelacjggijmfaaGreatDoor
