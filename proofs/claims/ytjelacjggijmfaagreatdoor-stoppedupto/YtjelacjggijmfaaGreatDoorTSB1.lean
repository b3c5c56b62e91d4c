/-
  Stopped of package makerkeep: true for all webs, goals, nodes and exits.
-/
import Derived.Test.YtjelacjggijmfaaGreatDoorTSA1
import Derived.Test.YtjelacjggijmfaaGreatDoorTKXD
namespace Go.Proofs.YtjelacjggijmfaaGreatDoor
open Go.RowKit
theorem upTo_len (ex:Nat→Int):∀l:List Nat,(upToW ex l).length≤l.length
 |[]=>Nat.le_refl _
 |i::r=>by
  have ih:=upTo_len ex r;unfold upToW;split
  ·simp only[List.length_cons];omega
  ·simp only[List.length_cons,List.length_nil];omega
theorem web_stopped {N T:List Int} {v:Value} {W:World} (h:WbM W v N T) (goal which ex:Int) (hgr: -9223372036854775808≤goal∧goal≤9223372036854775807) (hwr: -9223372036854775808≤which∧which≤9223372036854775807) (_: -9223372036854775808≤ex∧ex≤9223372036854775807) (hgb:Glob W):
 Calls Tryz.prog 10 #[v,.int .i64 goal,.int .i64 which,.int .i64 ex] W fun e w' =>e= .returned (.bool true)∧Below W.heap.size W w' :=by
 have h' :=h;obtain⟨⟨an,cn,bn,on,at',ct,bt,ot,rfl,-,-⟩,-,-,-,-⟩:=h';have hm:=many_le N;have hg:=pick_lt goal (n:=manyW N) (by omega);have hk:=pick_lt which (n:=manyW N) (by omega);obtain⟨g,hgd⟩:∃g,g=pickI goal (manyW N):=⟨_,rfl⟩;obtain⟨k,hkd⟩:∃k,k=pickI which (manyW N):=⟨_,rfl⟩
 have CP:∀w',Calls Tryz.prog 31 #[.int .i64 goal,.int .i64 (manyW N:Int)] w' fun e w2=>e= .returned (.int .i64 (g:Int))∧w2=w' :=fun w' =>by rw[hgd];exact pick_any goal (manyW N) w' hgr (by omega) (by omega)
 have CQ:∀w',Calls Tryz.prog 31 #[.int .i64 which,.int .i64 (manyW N:Int)] w' fun e w2=>e= .returned (.int .i64 (k:Int))∧w2=w' :=fun w' =>by rw[hkd];exact pick_any which (manyW N) w' hwr (by omega) (by omega)
 rw[←hgd] at hg;rw[←hkd] at hk;clear hgd hkd;obtain⟨ov,hov⟩:∃ov,ov=ovW N g (filesW N T) (Mk.nmB g):=⟨_,rfl⟩;obtain⟨ls,hls⟩:∃ls,ls=ov.filter (stW N (filesW N T)):=⟨_,rfl⟩;have hl1:ls.length≤12:=by rw[hls,hov];exact ls_len ..
 have hl2:=upTo_len (exK k ex) ls;have hsum:=(web_fs N T).sz;have hf1:=fl_len ls 100 (filesW N T) hl1
 refine stopped_walk W an at' cn ct goal which ex g k hg hk ov (Pl.sortF (mkF madeB ls 100 (filesW N T))) (Pl.sortF (mkF madeB (upToW (exK k ex) ls) 100 (filesW N T))) (ls.map wNm) ((upToW (exK k ex) ls).map wNm) (lastEx (exK k ex) ls) (by rw[List.length_map];exact hl1) (by rw[List.length_map];omega) (fun q=> ?_) (fun w' hb=>wbC (h.later hb)) (fun w' hb=>wdoes_more (h.later hb))
  (fun W a1 c1 b1 a2 c2 b2 a3 c3 b3 a4 c4 b4 x y=>sameResult_any _ _ _ _ a1 a2 a3 a4 c1 c2 c3 c4 b1 b2 b3 b4 0 0 0 0 W x.1 x.2.1 y.1 y.2.1 x.2.2.1 x.2.2.2.1 y.2.2.1 y.2.2.2.1 x.2.2.2.2.1 x.2.2.2.2.2 y.2.2.2.2.1 y.2.2.2.2.2 (by rw[List.length_map];omega) (by omega)) CP CQ (fun w' hb=>(lives_any w' (hgb.later hb)).mono fun e w2 q=>⟨q.1,q.2.1⟩) (fun w' cap b ce be L hb hf hfb hL hE=> ?_) (fun w' cap b ce be L hb hf hfb hL hE=> ?_) (fun w' c a cap b ha hr q=> ?_)
 ·obtain⟨n1,n2,-⟩:=q.small (stW N (filesW N T))
  rw[←hls] at n1 n2
  rcases stop_at n1 n2 (show k<12 by omega) ex with⟨a1,a2,a3⟩|⟨a,a1,a2,a3,a4,a5⟩
  ·exact .inl ⟨a1,by rw[a2],by rw[a2],a3⟩
  ·exact .inr ⟨a,by rw[List.length_map];exact a1,a2,a3,by rw[a4,List.map_take],a5⟩
 ·have C:=web_making (web_fs N T) (by decide) (by decide) hg (goal_is N _) cap b ce L be w' hf hfb (hgb.later hb) hE hL
  rw[←hov,←hls] at C;refine C.mono ?_
  rintro e w2 ⟨h1,a1,c1,b1,a2,c2,b2,h2,h3⟩
  refine⟨h1,a1,c1,b1,a2,c2,b2,?_,h3⟩;rw[h2,List.length_map]
 ·have C:=web_make (web_fs N T) (by decide) (by decide) hg (goal_is N _) (exK k ex) (some ⟨b,0,none⟩) (some ⟨be,0,none⟩) cap b 0 ce L be 0 w' (fun _=>rfl) hf hfb (hgb.later hb) hE hL rfl
  unfold lsW at C;rw[←hov,←hls] at C;refine C.mono ?_
  rintro e w2 ⟨-,a1,c1,b1,a2,c2,b2,h2,h3⟩
  refine⟨a1,c1,b1,a2,c2,b2,?_,h3⟩;rw[h2,List.length_map]
 ·obtain⟨n1,n2,-⟩:=q.small (stW N (filesW N T))
  rw[←hls] at n1 n2;exact at_any _ c a cap b 0 w' ha hr (by rw[List.length_map];omega) (wNms_nodup _ n1 n2)
end Go.Proofs.YtjelacjggijmfaaGreatDoor
