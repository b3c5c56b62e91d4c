/-
  Once of package makerkeep: true for all webs and goals.
-/
import Derived.Test.YtjelacjggijmfaaGreatDoorVKXA
namespace Go.Proofs.YtjelacjggijmfaaGreatDoor
open Go.RowKit
theorem wNms_nodup : ∀ l : List Nat,l.Nodup → (∀ i ∈ l,i < 12) → (l.map wNm).Nodup
 | [],_,_ => List.nodup_nil
 | x :: r,h,hl => by
  rw [List.nodup_cons] at h
  rw [List.map_cons,List.nodup_cons]
  refine ⟨fun q => ?_,wNms_nodup r h.2 fun i hi => hl i (List.mem_cons_of_mem _ hi)⟩
  obtain ⟨y,hy,e⟩ := List.mem_map.1 q
  exact h.1 ((wNm_inj (hl y (List.mem_cons_of_mem _ hy)) (hl x (List.mem_cons_self ..)) e) ▸ hy)
theorem ovW_len (N : List Int) (g : Nat) (fs : List Pl.File) (goal : Pl.Bs) : (ovW N g fs goal).length ≤ 12 := by
 unfold ovW
 split
 · rename_i h
   obtain ⟨r,-,h2⟩ := h.choose_spec
   have := few_all h2.ovOk.nd h2.ovOk.lt
   have := (many_le N).2
   omega
 · exact Nat.zero_le _
theorem pick_lt (c : Int) {n : Nat} (hn : 0 < n) : pickI c n < n := by
 unfold pickI
 have h1 := Int.emod_lt_of_pos (absI c) (show (0 : Int) < (n : Int) by omega)
 have h2 := Int.emod_nonneg (absI c) (show (n : Int) ≠ 0 by omega)
 omega
theorem goal_is (N : List Int) (g : Nat) : goalF (webS (JW N) (manyW N)) (Mk.nmB g) = Mk.nmB g := by
 unfold goalF
 rw [if_neg (by unfold Mk.nmB; simp)]
theorem st_is (N T : List Int) : ∀ x,x < manyW N → stW N (filesW N T) x = stl (JW N) (timeW T) (manyW N) x := fun x hx => (stl_same (wb_ok N) (web_tm N T) (manyW N) x hx).symm
theorem ls_all (N : List Int) (g : Nat) (fs : List Pl.File) (goal : Pl.Bs) : lsW N (fun _ => 0) g fs goal = (ovW N g fs goal).filter (stW N fs) := upTo_all _
theorem web_once {N T : List Int} {v : Value} {W : World} (h : WbM W v N T) (goal : Int) (hgr : -9223372036854775808 ≤ goal ∧ goal ≤ 9223372036854775807) (hgb : Glob W) :
 Calls Tryz.prog 8 #[v,.int .i64 goal] W fun e w' => e = .returned (.bool true) ∧ Below W.heap.size W w' := by
 have h' := h
 obtain ⟨⟨an,cn,bn,on,at',ct,bt,ot,rfl,-,-⟩,-,-,-,-⟩ := h'
 have hm := many_le N
 have hg := pick_lt goal (n := manyW N) (by omega)
 have hp : 0 < (filesW N T).length := by unfold filesW; simp
 refine once_walk W an at' cn ct goal (pickI goal (manyW N)) hg (ovW N (pickI goal (manyW N)) (filesW N T) (Mk.nmB (pickI goal (manyW N)))) (Pl.sortF (mkF madeB ((ovW N (pickI goal (manyW N)) (filesW N T) (Mk.nmB (pickI goal (manyW N)))).filter (stW N (filesW N T))) 100 (filesW N T))) _ (stW N (filesW N T)) rfl ?_ (st_is N T) (fun w' hb => wbC (h.later hb)) (fun w' => pick_any goal (manyW N) w' hgr (by omega) (by omega)) (fun w' hb => (lives_any w' (hgb.later hb)).mono fun e w2 q => ⟨q.1,q.2.1⟩) (fun w' cap b ce be L hb hf hfb hL hE => ?_) (fun w' c a cap b ha hr hov => ?_)
 · rw [List.length_map]
   have h1 := List.length_filter_le (stW N (filesW N T)) (ovW N (pickI goal (manyW N)) (filesW N T) (Mk.nmB (pickI goal (manyW N))))
   have h2 := ovW_len N (pickI goal (manyW N)) (filesW N T) (Mk.nmB (pickI goal (manyW N)))
   omega
 · have C := web_make (web_fs N T) (by decide) (by decide) hg (goal_is N _) (fun _ => 0) (some ⟨b,0,none⟩) (some ⟨be,0,none⟩) cap b 0 ce L be 0 w' (fun _ => rfl) hf hfb (hgb.later hb) hE hL rfl
   rw [ls_all,lastEx_all] at C
   refine C.mono ?_
   rintro e w2 ⟨h1,a1,c1,b1,a2,c2,b2,h2,h3⟩
   refine ⟨h1,a1,c1,b1,a2,c2,b2,?_,h3⟩
   rw [h2,List.length_map]
 · obtain ⟨n1,n2,-⟩ := hov.small (stW N (filesW N T))
   refine at_any _ c a cap b 0 w' ha hr ?_ (wNms_nodup _ n1 n2)
   rw [List.length_map]
   have h1 := List.length_filter_le (stW N (filesW N T)) (ovW N (pickI goal (manyW N)) (filesW N T) (Mk.nmB (pickI goal (manyW N))))
   have h2 := ovW_len N (pickI goal (manyW N)) (filesW N T) (Mk.nmB (pickI goal (manyW N)))
   omega
end Go.Proofs.YtjelacjggijmfaaGreatDoor
