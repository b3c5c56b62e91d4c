/-
  The program's world: its files by rising names.
  Files by rising names: by their sorted names, and by being put in one by one.
  DERIVED: THE SHELF's CONTRACTS AT THIS DUMP, IN PLAIN WORDS (tools/lay-plain.mjs out of 'TryzIter.lean', which tools/lay-shelf.mjs wrote): THE SAME DECLARATIONS UNDER THE SAME NAMES: 'import', 'namespace', 'open', 'def', 'theorem' AND NOTHING ELSE: no command of the shelf's: FOR A HAND-IN. Each laying: the table of numbers ('.._ren') and one theorem, a field a fact of the dump's own or the kernel's comparison; each contract: ONE APPLICATION.
-/
import Derived.Shelf.SlIter.Nil
import Derived.Shelf.SortM.Plain
import Derived.Shelf.SortM.SortNone
import Derived.Ground.GgzProg
import Derived.Ground.SlgmProg
import Derived.Test.YtjelacjggijmfaaGreatDoorProg
import Derived.Test.YtjelacjggijmfaaGreatDoorVWP2
import Derived.Test.YtjelacjggijmfaaGreatDoorVXT
import Derived.Laws.MakeOwn
namespace Go.Proofs
open Go.RowKit Go.Maps Go.Sort Go.Shelf
def Tryz.keys135_ren : Go.Shelf.Ren := ⟨fun | 7 => 135 | 10 => 180 | n => n, fun | 23 => 177 | 26 => 9 | 3 => 65 | 28 => 260 | 0 => 0 | 27 => 259 | 33 => 224 | 4 => 4 | n => n, fun | n => n⟩
theorem Tryz.keys135 : Go.Proofs.SlLaysZ.n7 Tryz.prog Tryz.keys135_ren := {
  mixed := by kernel_rfl
  f7 := ⟨Tryz.f135.name, by decide, Tryz.func135.trans (congrArg some (by kernel_rfl))⟩
  f10 := ⟨Tryz.f180.name, by decide, Tryz.func180.trans (congrArg some (by kernel_rfl))⟩
  t0 := Tryz.underlying0
  a0 := Tryz.isAgg0
  z0 := Tryz.sizeOf0
  v0 := Tryz.zeroValue0
  t4 := Tryz.underlying4
  a4 := Tryz.isAgg4
  z4 := Tryz.sizeOf4
  v4 := Tryz.zeroValue4
  t23 := Tryz.underlying177
  a23 := Tryz.isAgg177
  z23 := Tryz.sizeOf177
  v23 := Tryz.zeroValue177
  t26 := Tryz.underlying9
  a26 := Tryz.isAgg9
  z26 := Tryz.sizeOf9
  v26 := Tryz.zeroValue9
  t27 := Tryz.underlying259
  a27 := Tryz.isAgg259
  z27 := Tryz.sizeOf259
  v27 := Tryz.zeroValue259
  t28 := Tryz.underlying260
  a28 := Tryz.isAgg260
  z28 := Tryz.sizeOf260
  v28 := Tryz.zeroValue260
  t33 := Tryz.underlying224
  a33 := Tryz.isAgg224
  z33 := Tryz.sizeOf224
  v33 := Tryz.zeroValue224 }
def Tryz.sorted134_ren : Go.Shelf.Ren := ⟨fun | 6 => 134 | 8 => 178 | 9 => 179 | 11 => 218 | 13 => 220 | 12 => 219 | 23 => 262 | 24 => 263 | 14 => 253 | 15 => 254 | 16 => 255 | 17 => 256 | 18 => 257 | 19 => 258 | 20 => 259 | 21 => 260 | 22 => 261 | 25 => 280 | 26 => 281 | 27 => 282 | 28 => 283 | 29 => 284 | 30 => 285 | 31 => 292 | n => n, fun | 26 => 9 | 28 => 260 | 24 => 30 | 0 => 0 | 3 => 3 | 37 => 335 | 48 => 365 | 50 => 367 | 4 => 4 | 40 => 359 | 39 => 358 | 45 => 263 | 5 => 5 | 9 => 9 | 51 => 374 | 55 => 378 | 57 => 387 | 58 => 298 | 33 => 224 | n => n, fun | n => n⟩
theorem Tryz.sorted134 : Go.Proofs.SlLaysZ.n6 Tryz.prog Tryz.sorted134_ren := {
  mixed := by kernel_rfl
  f6 := ⟨Tryz.f134.name, by decide, Tryz.func134.trans (congrArg some (by kernel_rfl))⟩
  f8 := ⟨Tryz.f178.name, by decide, Tryz.func178.trans (congrArg some (by kernel_rfl))⟩
  f11 := ⟨Tryz.f218.name, by decide, Tryz.func218.trans (congrArg some (by kernel_rfl))⟩
  t0 := Tryz.underlying0
  a0 := Tryz.isAgg0
  z0 := Tryz.sizeOf0
  v0 := Tryz.zeroValue0
  t24 := Tryz.underlying30
  a24 := Tryz.isAgg30
  z24 := Tryz.sizeOf30
  v24 := Tryz.zeroValue30
  t26 := Tryz.underlying9
  a26 := Tryz.isAgg9
  z26 := Tryz.sizeOf9
  v26 := Tryz.zeroValue9
  t28 := Tryz.underlying260
  a28 := Tryz.isAgg260
  z28 := Tryz.sizeOf260
  v28 := Tryz.zeroValue260
  i26 := by kernel_rfl }
def Tryz.sort179_ren : Go.Shelf.Ren := ⟨fun | 6 => 179 | 8 => 220 | 9 => 219 | 19 => 262 | 20 => 263 | 21 => 253 | 22 => 254 | 23 => 255 | 24 => 256 | 25 => 257 | 26 => 258 | 27 => 259 | 28 => 260 | 29 => 261 | 36 => 280 | 31 => 281 | 32 => 282 | 37 => 283 | 38 => 284 | 39 => 285 | 41 => 292 | n => n, fun | 27 => 30 | 29 => 9 | 3 => 3 | 32 => 335 | 26 => 30 | 0 => 0 | 44 => 365 | 46 => 367 | 4 => 4 | 36 => 359 | 35 => 358 | 41 => 263 | 5 => 5 | 9 => 9 | 53 => 374 | 57 => 378 | 63 => 387 | 64 => 298 | n => n, fun | n => n⟩
theorem Tryz.sort179 : Go.Proofs.SlLaysM.n6 Tryz.prog Tryz.sort179_ren := {
  mixed := by kernel_rfl
  f6 := ⟨Tryz.f179.name, by decide, Tryz.func179.trans (congrArg some (by kernel_rfl))⟩
  f8 := Tryz.func220.trans (congrArg some (by kernel_rfl))
  f9 := ⟨Tryz.f219.name, by decide, Tryz.func219.trans (congrArg some (by kernel_rfl))⟩
  f19 := Tryz.func262.trans (congrArg some (by kernel_rfl))
  f20 := Tryz.func263.trans (congrArg some (by kernel_rfl))
  f21 := ⟨Tryz.f253.name, by decide, Tryz.func253.trans (congrArg some (by kernel_rfl))⟩
  f22 := ⟨Tryz.f254.name, by decide, Tryz.func254.trans (congrArg some (by kernel_rfl))⟩
  f23 := ⟨Tryz.f255.name, by decide, Tryz.func255.trans (congrArg some (by kernel_rfl))⟩
  f24 := ⟨Tryz.f256.name, by decide, Tryz.func256.trans (congrArg some (by kernel_rfl))⟩
  f25 := ⟨Tryz.f257.name, by decide, Tryz.func257.trans (congrArg some (by kernel_rfl))⟩
  f26 := ⟨Tryz.f258.name, by decide, Tryz.func258.trans (congrArg some (by kernel_rfl))⟩
  f27 := ⟨Tryz.f259.name, by decide, Tryz.func259.trans (congrArg some (by kernel_rfl))⟩
  f28 := ⟨Tryz.f260.name, by decide, Tryz.func260.trans (congrArg some (by kernel_rfl))⟩
  f29 := ⟨Tryz.f261.name, by decide, Tryz.func261.trans (congrArg some (by kernel_rfl))⟩
  f31 := Tryz.func281.trans (congrArg some (by kernel_rfl))
  f32 := Tryz.func282.trans (congrArg some (by kernel_rfl))
  f36 := ⟨Tryz.f280.name, by decide, Tryz.func280.trans (congrArg some (by kernel_rfl))⟩
  f37 := ⟨Tryz.f283.name, by decide, Tryz.func283.trans (congrArg some (by kernel_rfl))⟩
  f38 := ⟨Tryz.f284.name, by decide, Tryz.func284.trans (congrArg some (by kernel_rfl))⟩
  f39 := ⟨Tryz.f285.name, by decide, Tryz.func285.trans (congrArg some (by kernel_rfl))⟩
  f41 := ⟨Tryz.f292.name, by decide, Tryz.func292.trans (congrArg some (by kernel_rfl))⟩
  t0 := Tryz.underlying0
  a0 := Tryz.isAgg0
  z0 := Tryz.sizeOf0
  v0 := Tryz.zeroValue0
  t3 := Tryz.underlying3
  a3 := Tryz.isAgg3
  z3 := Tryz.sizeOf3
  v3 := Tryz.zeroValue3
  t4 := Tryz.underlying4
  a4 := Tryz.isAgg4
  z4 := Tryz.sizeOf4
  v4 := Tryz.zeroValue4
  t5 := Tryz.underlying5
  a5 := Tryz.isAgg5
  z5 := Tryz.sizeOf5
  v5 := Tryz.zeroValue5
  t9 := Tryz.underlying9
  a9 := Tryz.isAgg9
  z9 := Tryz.sizeOf9
  v9 := Tryz.zeroValue9
  t26 := Tryz.underlying30
  a26 := Tryz.isAgg30
  z26 := Tryz.sizeOf30
  v26 := Tryz.zeroValue30
  t27 := Tryz.underlying30
  a27 := Tryz.isAgg30
  z27 := Tryz.sizeOf30
  v27 := Tryz.zeroValue30
  t29 := Tryz.underlying9
  a29 := Tryz.isAgg9
  z29 := Tryz.sizeOf9
  v29 := Tryz.zeroValue9
  t32 := Tryz.underlying335
  a32 := Tryz.isAgg335
  z32 := Tryz.sizeOf335
  v32 := Tryz.zeroValue335
  t35 := Tryz.underlying358
  a35 := Tryz.isAgg358
  z35 := Tryz.sizeOf358
  v35 := Tryz.zeroValue358
  t36 := Tryz.underlying359
  a36 := Tryz.isAgg359
  z36 := Tryz.sizeOf359
  v36 := Tryz.zeroValue359
  t41 := Tryz.underlying263
  a41 := Tryz.isAgg263
  z41 := Tryz.sizeOf263
  v41 := Tryz.zeroValue263
  t44 := Tryz.underlying365
  a44 := Tryz.isAgg365
  z44 := Tryz.sizeOf365
  v44 := Tryz.zeroValue365
  t46 := Tryz.underlying367
  a46 := Tryz.isAgg367
  z46 := Tryz.sizeOf367
  v46 := Tryz.zeroValue367
  t53 := Tryz.underlying374
  a53 := Tryz.isAgg374
  z53 := Tryz.sizeOf374
  v53 := Tryz.zeroValue374
  t57 := Tryz.underlying378
  a57 := Tryz.isAgg378
  z57 := Tryz.sizeOf378
  v57 := Tryz.zeroValue378
  t63 := Tryz.underlying387
  a63 := Tryz.isAgg387
  z63 := Tryz.sizeOf387
  v63 := Tryz.zeroValue387
  t64 := Tryz.underlying298
  a64 := Tryz.isAgg298
  z64 := Tryz.sizeOf298
  v64 := Tryz.zeroValue298 }
/-- slices.Sort's two contracts at this dump, at the fence that asks nothing. -/
theorem Tryz.sorts134 (m : Nat) : AnyZ.SortsIn Tryz.prog Tryz.sorted134_ren Fence.wide m :=
  ⟨fun blk off cap ss W hH hblk hsz => callsIn_wide.2 (AnyM.slices_Sort_string Tryz.sort179 blk off cap ss W hH hblk hsz),
   fun p cap W => callsIn_wide.2 (AnyM.slices_Sort_string_none Tryz.sort179 p cap W)⟩

/-- **maps.Keys[map[string]maker/api.File,string,maker/api.File], at whatever map, the nil one too:** a function value over ONE NEW BLOCK, which holds the map. -/
theorem Tryz.maps_Keys_135 (mb : Option Nat) (W : World) : CallsIn Fence.wide 5 Tryz.prog 135 #[.map mb] W fun e w' => e = .returned (.func (.func 180) #[] #[.pointer (some ⟨W.heap.size, 0, none⟩)]) ∧ w' = W.alloc (.cells #[.map mb] 177) :=
  AnyZ.keys_in Tryz.keys135 Fence.wide 5 trivial rfl mb W

set_option maxHeartbeats 1000000 in
/-- **slices.Sorted[string] AT WHAT maps.Keys[map[string]maker/api.File,string,maker/api.File] HANDED BACK FOR A MAP THAT IS NOT nil** ('w': the world AHEAD of maps.Keys' call): A NEW SLICE THAT HOLDS THE MAP's KEYS, SORTED; nil just where it has none; nothing that lay before has turned. -/
theorem Tryz.slices_Sorted_keys_134_135 {H : Type} (b nn : Nat) (D0 : DataW H) (R : Value → Option (DataW H × List MemPlace)) (w : World) (hown : w.ownsMap Tryz.prog 9 R b nn D0) (hmax : Maps.size D0 ≤ maxLen) (hbytes : Maps.size D0 * 16 ≤ 140737488355328) :
    CallsIn Fence.wide 5 Tryz.prog 134 #[.func (.func 180) #[] #[.pointer (some ⟨w.heap.size, 0, none⟩)]] (w.alloc (.cells #[.map (some b)] 177)) fun e w' => ∃ (v : Value) (ss : List (List UInt8)), e = .returned v ∧ ss.Perm (strKeys D0) ∧
      w'.ownsRow (w.alloc (.cells #[.map (some b)] 177)).heap.size 9 1 v ss.length ((ss.mergeSort (fun x y => decide (x ≤ y))).map encStr) ∧ (v = .slice none 0 0 ↔ ss = []) ∧ Below (w.alloc (.cells #[.map (some b)] 177)).heap.size (w.alloc (.cells #[.map (some b)] 177)) w' := by
  have hbl := hown.lt
  have hseq : SeqGives Fence.wide 2 Tryz.prog 180 #[.pointer (some ⟨w.heap.size, 0, none⟩)] encStr (fun ss => ss.Perm (strKeys D0)) (Maps.size D0) (w.alloc (.cells #[.map (some b)] 177)) :=
    AnyZ.keys_gives (ρ := Tryz.keys135_ren) { Tryz.keys135 with } Fence.wide _ trivial rfl (by omega) w.heap.size b nn D0 _ (by simp) (by simp) (by
      obtain ⟨es, clock, hb, Ft, hs, hD⟩ := hown
      exact ⟨es, clock, (Below.heap_alloc _ _ b hbl).trans hb, Ft, hs, hD⟩)
  exact AnyZ.sorted_in Tryz.sorted134 Fence.wide 5 trivial trivial trivial trivial rfl (by omega) (Tryz.sorts134 _) (enters_of Tryz.func179 (by kernel_rfl) rfl) 180 #[.pointer (some ⟨w.heap.size, 0, none⟩)] trivial (enters_of Tryz.func180 (by kernel_rfl) rfl) _ _ hmax hbytes _ hseq

set_option maxHeartbeats 1000000 in
/-- **.. AND FOR THE nil MAP: nil.** -/
theorem Tryz.slices_Sorted_keys_nil_134_135 (w : World) :
    CallsIn Fence.wide 5 Tryz.prog 134 #[.func (.func 180) #[] #[.pointer (some ⟨w.heap.size, 0, none⟩)]] (w.alloc (.cells #[.map none] 177)) fun e w' => ∃ (v : Value) (ss : List (List UInt8)), e = .returned v ∧ ss = [] ∧
      w'.ownsRow (w.alloc (.cells #[.map none] 177)).heap.size 9 1 v ss.length ((ss.mergeSort (fun x y => decide (x ≤ y))).map encStr) ∧ (v = .slice none 0 0 ↔ ss = []) ∧ Below (w.alloc (.cells #[.map none] 177)).heap.size (w.alloc (.cells #[.map none] 177)) w' := by
  have hseq : SeqGives Fence.wide 2 Tryz.prog 180 #[.pointer (some ⟨w.heap.size, 0, none⟩)] encStr (fun ss : List (List UInt8) => ss = []) 0 (w.alloc (.cells #[.map none] 177)) :=
    AnyZ.keys_gives_nil (ρ := Tryz.keys135_ren) { Tryz.keys135 with } Fence.wide _ trivial rfl w.heap.size _ (by simp) (by simp)
  exact AnyZ.sorted_in Tryz.sorted134 Fence.wide 5 trivial trivial trivial trivial rfl (by omega) (Tryz.sorts134 _) (enters_of Tryz.func179 (by kernel_rfl) rfl) 180 #[.pointer (some ⟨w.heap.size, 0, none⟩)] trivial (enters_of Tryz.func180 (by kernel_rfl) rfl) _ 0 (Nat.zero_le _) (by omega) _ hseq

end Go.Proofs
namespace Go.Proofs.YtjelacjggijmfaaGreatDoor
open Go.RowKit Go.MapKept Go.ChangeMaps Go.Maps Go.Sort

theorem bs_total (a b : Pl.Bs) : a ≤ b ∨ b ≤ a := List.le_total a b
theorem bs_trans {a b c : Pl.Bs} (h : a ≤ b) (g : b ≤ c) : a ≤ c := List.le_trans h g
theorem bs_anti {a b : Pl.Bs} (h : a ≤ b) (g : b ≤ a) : a = b := List.le_antisymm h g
theorem insF_perm (f : Pl.File) (l : List Pl.File) : (Pl.insF f l).Perm (f :: l) := by
  induction l with
  | nil => exact List.Perm.refl _
  | cons g r ih =>
    unfold Pl.insF
    split
    · exact List.Perm.refl _
    · exact (List.Perm.cons g ih).trans (List.Perm.swap f g r)
theorem insF_sorted (f : Pl.File) (l : List Pl.File) (h : l.Pairwise (fun a b => a.path ≤ b.path)) : (Pl.insF f l).Pairwise (fun a b => a.path ≤ b.path) := by
  induction l with
  | nil => simp [Pl.insF]
  | cons g r ih =>
    unfold Pl.insF
    rw [List.pairwise_cons] at h
    split
    · rename_i hlt
      have hle : f.path ≤ g.path := List.le_of_lt hlt
      refine List.pairwise_cons.2 ⟨fun x hx => ?_, List.pairwise_cons.2 h⟩
      rcases List.mem_cons.1 hx with rfl | hx
      · exact hle
      · exact bs_trans hle (h.1 x hx)
    · rename_i hnl
      have hle : g.path ≤ f.path := List.not_lt.1 hnl
      refine List.pairwise_cons.2 ⟨fun x hx => ?_, ih h.2⟩
      rcases List.mem_cons.1 ((insF_perm f r).mem_iff.1 hx) with rfl | hx
      · exact hle
      · exact h.1 x hx
theorem sortF_aux : ∀ (fs acc : List Pl.File), acc.Pairwise (fun a b => a.path ≤ b.path) → (fs.foldl (fun acc f => Pl.insF f acc) acc).Pairwise (fun a b => a.path ≤ b.path) ∧ (fs.foldl (fun acc f => Pl.insF f acc) acc).Perm (acc ++ fs)
  | [], acc, h => ⟨h, by simp⟩
  | f :: r, acc, h => by
    obtain ⟨h1, h2⟩ := sortF_aux r (Pl.insF f acc) (insF_sorted f acc h)
    refine ⟨h1, h2.trans ?_⟩
    refine ((insF_perm f acc).append_right r).trans ?_
    exact (List.perm_middle (a := f) (l₁ := acc) (l₂ := r)).symm
theorem sortF_sorted (fs : List Pl.File) : (Pl.sortF fs).Pairwise (fun a b => a.path ≤ b.path) := (sortF_aux fs [] .nil).1
theorem sortF_perm (fs : List Pl.File) : (Pl.sortF fs).Perm fs := by
  have := (sortF_aux fs [] .nil).2
  rw [List.nil_append] at this
  exact this
/-- The names sorted are the names of the files sorted. -/
theorem sorted_names {fs : List Pl.File} {ss : List Pl.Bs} (hp : ss.Perm (fs.map (·.path))) : ss.mergeSort (fun x y => decide (x ≤ y)) = (Pl.sortF fs).map (·.path) := by
  refine List.Perm.eq_of_pairwise (le := fun a b => a ≤ b) (fun a b _ _ h g => bs_anti h g) ?_ ?_ ?_
  · have := List.pairwise_mergeSort (le := fun x y : Pl.Bs => decide (x ≤ y)) (fun a b c h g => by simp only [decide_eq_true_eq] at h g ⊢; exact bs_trans h g) (fun a b => by simpa using bs_total a b) ss
    simpa using this
  · rw [List.pairwise_map]; exact sortF_sorted fs
  · exact (List.mergeSort_perm ss _).trans (hp.trans ((sortF_perm fs).map _).symm)
theorem look_mem {fs : List Pl.File} (hu : Pl.Uniq fs) {f : Pl.File} (hf : f ∈ fs) : Pl.look fs f.path = some f := by
  induction fs with
  | nil => cases hf
  | cons g r ih =>
    unfold Pl.Uniq at hu ih
    rw [List.map_cons, List.nodup_cons] at hu
    unfold Pl.look
    rcases List.mem_cons.1 hf with rfl | hf
    · simp
    · have hne : ¬ g.path = f.path := fun e => hu.1 (e ▸ List.mem_map_of_mem hf)
      rw [List.find?_cons_of_neg (by simpa using hne)]
      exact ih hu.2 hf
theorem map_strV_inj : ∀ {a b : List Pl.Bs}, a.map strV = b.map strV → a = b
  | [], [], _ => rfl
  | [], _ :: _, h => by simp at h
  | _ :: _, [], h => by simp at h
  | x :: a, y :: b, h => by
    simp only [List.map_cons, List.cons.injEq] at h
    rw [strV_inj h.1, map_strV_inj h.2]
/-- A map from strings, for the library's sorting of its keys. -/
def noneE : Value → Option (DataW Unit × List MemPlace) := fun _ => some (.nil, [])
theorem SMap.owns {w : World} {b : Nat} {l : Ents} (h : SMap w b l) {P : Program} {kt : TypeId} (hk : P.underlying kt = some .string) (hl : ∀ x ∈ l, x.1.length ≤ maxLen) :
    ∃ D : DataW Unit, w.ownsMap P kt noneE b l.length D ∧ Maps.size D = l.length ∧ (strKeys D).Perm (l.map (·.1)) := by
  obtain ⟨es, clock, hb, hst, hsz, he⟩ := h
  have hlen : es.size = l.length := by have := congrArg List.length he; simpa using this
  have hrd : ∀ x ∈ es.toList, ∃ k : Pl.Bs, x.key = strV k ∧ WideElems.rd P kt noneE x = some (.string k, .nil) := fun x hx => by
    have hm : (x.key, x.val) ∈ l.map (fun y => (strV y.1, y.2)) := by rw [← he]; exact List.mem_map_of_mem (f := fun e : MapEntry => (e.key, e.val)) hx
    obtain ⟨y, hy, e⟩ := List.mem_map.1 hm
    injection e with e1 e2
    have hsz := hl y hy
    refine ⟨y.1, e1.symm, ?_⟩
    have hkey : keyOf P kt x.key = some (.string y.1) := by
      rw [← e1]; unfold strV
      have := WideMaps.keyOf_string_mk hk (s := ⟨y.1.toArray⟩) (by simpa [ByteArray.size] using hsz)
      simpa using this
    unfold WideElems.rd noneE
    rw [hkey]; rfl
  have hfit : WideElems.Fit P kt noneE es clock := ⟨hsz, hst, fun x hx => by
    obtain ⟨k, _, h4⟩ := hrd x hx
    exact ⟨_, h4⟩⟩
  have hown : w.ownsMap P kt noneE b l.length (DataW.map ((es.toList.map (WideElems.rg P kt noneE)).foldr DataW.insert [])) := ⟨es, clock, hb, hfit, by omega, rfl⟩
  refine ⟨_, hown, ?_, ?_⟩
  · show ((es.toList.map (WideElems.rg P kt noneE)).foldr DataW.insert []).length = _
    rw [length_sorted]; simp [hlen]
  · show (((es.toList.map (WideElems.rg P kt noneE)).foldr DataW.insert []).map fun p => strOf p.1).Perm _
    refine ((WideShapes.sorted_perm _).map _).trans ?_
    rw [List.map_map]
    have hq : es.toList.map ((fun p => strOf p.1) ∘ WideElems.rg P kt noneE) = l.map (·.1) := by
      have h1 : (es.toList.map ((fun p => strOf p.1) ∘ WideElems.rg P kt noneE)).map strV = (l.map (·.1)).map strV := by
        rw [List.map_map, List.map_map]
        have h2 : es.toList.map (fun e => e.key) = l.map (fun x => strV x.1) := by
          have := congrArg (List.map Prod.fst) he
          simpa [List.map_map, Function.comp_def] using this
        rw [show (strV ∘ fun x : Pl.Bs × Value => x.1) = (fun x => strV x.1) from rfl, ← h2]
        refine List.map_congr_left (fun x hx => ?_)
        obtain ⟨k, h3, h4⟩ := hrd x hx
        simp only [Function.comp]
        rw [WideElems.rg_of h4, h3]
        rfl
      exact map_strV_inj h1
    rw [hq]
end Go.Proofs.YtjelacjggijmfaaGreatDoor
namespace Go.Proofs.YtjelacjggijmfaaGreatDoor
open Go.RowKit Go.MapKept Go.ChangeMaps Go.Maps Go.Sort

theorem SMap.len {P : Program} {w : World} {b : Nat} {l : Ents} {t kt et : TypeId} (h : SMap w b l) (ht : P.underlying t = some (.map kt et)) (ty : TypeId) : (Builtin.len_ #[t] ty #[.map (some b)]).run P w = .ok (.int .i64 (l.length : Nat)) w := by
  obtain ⟨es, clock, hb, _, _, he⟩ := h
  have hlen : es.size = l.length := by have := congrArg List.length he; simpa using this
  have hm : P.underlying t = some (.map (P.mapKeyOf t) (P.mapElemOf t)) := by simp [Program.mapKeyOf, Program.mapElemOf, ht]
  rw [run_len_map _ t ty b es clock hm hb, hlen]
  rfl
theorem wpList_len_s {P : Program} (w : World) {ops : Array Oper} {rest : List Oper} {o : Oper} {a : Act} {Q : Exit → Act → World → Prop} (hg : o.guard = none) (m : Operand) (t : TypeId) (hop : o.op = Op.call { callee := Callee.builtin Builtin.len, args := #[m], argTypes := #[t] })
    (kt et : TypeId) (ht : P.underlying t = some (.map kt et)) (b : Nat) (l : Ents) (hm : a.eval m = .map (some b)) (hs : SMap w b l) (hK : wpList P ops Q rest (a.put o.dst (.int .i64 (l.length : Nat))) w) : wpList P ops Q (o :: rest) a w := by
  refine wpList_plain hg fun K' hK' => ?_
  unfold Oper.wp
  simp [execOp, hop, resolve, invoke, builtin, hm, hs.len ht o.type, Result.andThen]
  exact hK' _ _ hK
def AFls (w : World) (B : Nat) (v : Value) (fs : List Pl.File) : Prop := w.ownsRow B 65 3 v fs.length (filesC fs)
set_option maxHeartbeats 4000000 in
set_option maxRecDepth 20000 in
theorem files_any (bx bf bi : Nat) (ve : Value) (ef : List Pl.Eff) (fs : List Pl.File) (clock : Int) (w : World) (h : PW w bx bf bi ve ef fs clock) (hu : Pl.Uniq fs) (hl : fs.length ≤ 16777216) (hp : ∀ f ∈ fs, f.path.length ≤ maxLen) :
    Calls Tryz.prog 83 #[.pointer (some ⟨bx, 0, none⟩)] w fun e w' => (∃ v, e = .returned v ∧ AFls w' w.heap.size v (Pl.sortF fs)) ∧ Below w.heap.size w w' := by
  obtain ⟨i0, hi, hz0, hz1, hz2⟩ := info_parts Tryz.infoAFile
  have c0 := h.row.cell 0 (by simp)
  simp only [List.getElem_cons_zero] at c0
  have hbx := h.row.lt
  have hbf := h.files.lt
  have hbi := h.first.elim (fun l h => h.1.lt)
  have hlen : (fEnts fs).length = fs.length := by unfold fEnts; rw [List.length_map]
  have HF := hide h.files
  have HPW := hide h
  obtain ⟨w1, hmk, how1, hgr1⟩ := run_make_own (P := Tryz.prog) w w.heap.size 27 65 i0 _ 3 Tryz.underlying27 hi hz0 hz1 .i64 .i64 fs.length (by rw [hz2]; omega) (by unfold maxLen; omega) (Nat.le_refl _)
  have hB1 : Below w.heap.size w w1 := ⟨hgr1.os, hgr1.tape, hgr1.output, hgr1.size, fun k hk => hgr1.block k hk (by simp)⟩
  have HP1 := hide (h.later hB1)
  obtain ⟨D, hD1, hD2, hD3⟩ := (unhide HP1).files.owns Tryz.underlying9 (fun x hx => by
    unfold fEnts at hx
    obtain ⟨f, hf, rfl⟩ := List.mem_map.1 hx
    exact hp f hf)
  rw [hlen] at hD1 hD2
  have hD3' : (strKeys D).Perm (fs.map (·.path)) := by
    have : (fEnts fs).map (·.1) = fs.map (·.path) := by unfold fEnts; rw [List.map_map]; rfl
    rw [← this]; exact hD3
  have CK := hide (fun W => callsIn_wide.1 (Tryz.maps_Keys_135 (some bf) W))
  have CS := hide (callsIn_wide.1 (Tryz.slices_Sorted_keys_134_135 bf fs.length D noneE w1 hD1 (by rw [hD2]; unfold maxLen; omega) (by rw [hD2]; omega)))
  have hsn : ∀ ss : List Pl.Bs, ss.Perm (strKeys D) → ss.mergeSort (fun x y => decide (x ≤ y)) = (Pl.sortF fs).map (·.path) ∧ ss.length = (Pl.sortF fs).length := fun ss hss => ⟨sorted_names (hss.trans hD3'), by have := (hss.trans hD3').length_eq; rw [List.length_map] at this; rw [this, (sortF_perm fs).length_eq]⟩
  have HSN := hide hsn
  have HO1 := hide how1
  have HB1 := hide hB1
  have hsl : (Pl.sortF fs).length = fs.length := (sortF_perm fs).length_eq
  have HLK : Hid (∀ f ∈ Pl.sortF fs, mget (fEnts fs) f.path = some (fileV f)) := fun f hf => by rw [mget_f, look_mem hu ((sortF_perm fs).mem_iff.1 hf)]; rfl
  have HI := hide hi
  have HZ0 := hide hz0
  have HZ1 := hide hz1
  have HZ2 := hide hz2
  have hzw := hB1.size
  have y0 := (unhide HP1).row.cell 0 (by simp)
  simp only [List.getElem_cons_zero] at y0
  clear h hu hp hsn how1 hgr1 hD1 hD2 hD3 hD3' hB1 hi hz0 hz1 hz2
  generalize hsr : Pl.sortF fs = srt at *
  go_enter Tryz.func83, Tryz.ntmps83
  go_wp2_with (first
    | (at_len; refine wpList_len_s _ rfl _ 177 rfl 9 65 Tryz.underlying177 bf (fEnts fs) rfl (unhide HF) ?_; rw [hlen])
    | (go_at_call 135; refine (unhide CK _).mono ?_; rintro e w2 ⟨rfl, rfl⟩)
    | (go_at_call 134; refine (unhide CS).mono ?_; rintro e w2 ⟨v, ss, rfl, hss, hrow, hnil, hb2⟩; obtain ⟨av, cv, rfl⟩ := own_shape hrow; obtain ⟨hn1, hn2⟩ := unhide HSN ss hss; rw [hn1, hn2] at hrow; rw [hn2]; have HRO := hide hrow; have HB2 := hide hb2; clear hrow hb2 hss hnil hn1)
    | fail)
  have hba : Below w1.heap.size w1 (w1.alloc (.cells #[.map (some bf)] 177)) := (Below.refl _ w1).alloc (Nat.le_refl _) _
  have hb3 : Below w1.heap.size w1 w2 := hba.trans ((unhide HB2).mono hba.size)
  have HP2 := hide ((unhide HP1).later hb3)
  have HO2 := hide (own_same (unhide HO1) (fun k hk => hb3.block k ((unhide HO1).lt k hk).2))
  have HRO2 := hide (own_mono (unhide HRO) (Nat.le_trans hzw hba.size))
  have HBW := hide ((unhide HB1).trans (hb3.mono hzw))
  clear hba hb3 HB1 HB2 HP1 HO1 CK CS HRO y0 c0 HF HSN hmk hn2
  go_loopw [3, 19] (fun vl i wr => ∃ k : Nat, i = .int .i64 k ∧ k ≤ srt.length ∧ Hid (wr.ownsRow w.heap.size 65 3 vl k (filesC (srt.take k))) ∧ Hid (wr.ownsRow w.heap.size 9 1 (.slice av srt.length cv) srt.length ((srt.map (·.path)).map encStr)) ∧ Hid (PW wr bx bf bi ve ef fs clock) ∧ Hid (Below w.heap.size w wr)) (fun _ i _ => srt.length - intN i)
  case atStart => exact ⟨0, rfl, Nat.zero_le _, HO2, HRO2, HP2, HBW⟩
  case round =>
    clear HO2 HRO2 HP2 HBW
    obtain ⟨k, rfl, hkl, HO, HR, HP, HB⟩ := hrel
    obtain ⟨sa, sc, hvs⟩ := own_shape (unhide HO)
    subst hvs
    by_cases hk : k < srt.length
    · have t1 : (k : Int) < (srt.length : Int) := by omega
      obtain ⟨gv, cv', hgv, -⟩ := owns_form (unhide HR) (by omega)
      cases hgv
      have n0 := own_cell (unhide HR) k (by simp; exact hk)
      simp only [List.getElem_map] at n0
      have HMG := hide (unhide HLK srt[k] (List.getElem_mem hk))
      have htk : srt.take (k + 1) = srt.take k ++ [srt[k]] := List.take_succ_eq_append_getElem hk
      have HTK : Hid (filesC (srt.take (k + 1)) = filesC (srt.take k) ++ fileC srt[k]) := by show _ = _; rw [htk, filesC_snoc]
      have z0 := (unhide HP).row.cell 0 (by simp)
      simp only [List.getElem_cons_zero] at z0
      have HPF := hide (unhide HP).files
      generalize srt[k] = fk at *
      unfold encStr at n0
      have hwr := (unhide HB).size
      have HNX : Hid (∀ (o : Obj) (v' : Value) (Z : World), (wr.alloc o).grownBy Z (Value.slice sa k sc).ownBlock → Z.ownsRow w.heap.size 9 1 (.slice (some ⟨gv, 0, none⟩) srt.length cv) srt.length ((srt.map (·.path)).map encStr) ∧ PW Z bx bf bi ve ef fs clock ∧ Below w.heap.size w Z) := fun o v' Z hg => by
        have hg' := (World.grownBy_alloc wr o _).trans hg
        have hbl : Below w.heap.size wr Z := ⟨hg'.os, hg'.tape, hg'.output, hg'.size, fun q hq => hg'.block q (by omega) (own_ne (unhide HO) hq)⟩
        have hpw := unhide HP
        refine ⟨?_, hpw.tn (Tn.grown (p := fun q => w.heap.size ≤ q) hg' (fun q e => ((unhide HO).lt q e).1)) ?_ ?_ ?_, (unhide HB).trans hbl⟩
        · rcases apart (unhide HR) (unhide HO) (by decide) with e | e
          · exact World.ownsRow.kept (unhide HR) hg' (.inl e)
          · exact World.ownsRow.kept (unhide HR) hg' (.inr e)
        · show ¬ w.heap.size ≤ bx; omega
        · show ¬ w.heap.size ≤ bf; omega
        · show ¬ w.heap.size ≤ bi; omega
      clear htk HLK HP HR
      as_aux_lemma =>
        go_wp2_with (first
          | (at_lookup; refine wpList_look_one _ rfl _ _ 177 rfl 9 65 Tryz.underlying177 Tryz.underlying9 _ (zeroFile _) bf (fEnts fs) rfl (unhide HPF) fk.path rfl (fileV fk) (by rw [unhide HMG]; rfl) ?_; unfold fileV)
          | (at_builtin; refine wpList_append_own _ rfl (.tmp 23) (.tmp 30) 27 rfl w.heap.size 65 i0 _ 3 40 Tryz.underlying27 (unhide HI) (unhide HZ0) (unhide HZ1) (unhide HZ2) rfl (by decide) _ k _ rfl (World.ownsRow.alloc (unhide HO) _) ⟨_, 0, none⟩ 1 1 (fileC fk) rfl rfl (cells_new _ _ (fileC fk)) (file_one fk) (by unfold maxLen; omega) (by omega) (by rw [World.size_alloc]; omega) ?_; intro v1 w3 hown1 hgrow1 hnil1; have HO1 := hide hown1; have HN1 := hide (unhide HNX _ v1 _ hgrow1); clear hown1 hgrow1 hnil1)
          | fail)
        go_roundw
        case rel => exact ⟨k + 1, by go_num, by omega, by rw [unhide HTK]; exact unhide HO1, (unhide HN1).1, (unhide HN1).2.1, (unhide HN1).2.2⟩
        case measure => simp only [intN]; omega
    · have hke : srt.take k = srt := List.take_of_length_le (by omega)
      have hkk : k = srt.length := by omega
      subst hkk
      rw [hke] at HO
      clear hke
      go_wp2_with fail
      go_ret
      exact ⟨⟨_, rfl, unhide HO⟩, unhide HB⟩
end Go.Proofs.YtjelacjggijmfaaGreatDoor
