/-
  The steps of the nodes: what they are; what lies in memory.
  What the signs in a node's commands stand for: signsOf.
  What the signs in a node's commands stand for.
-/
import Derived.Test.YtjelacjggijmfaaGreatDoorVWRC
import Derived.Test.YtjelacjggijmfaaGreatDoorVNX6
namespace Go.Proofs.YtjelacjggijmfaaGreatDoor
open Go.RowKit Go.MapKept Go.ChangeMaps Go.Maps

/-- strings.Join by a blank. -/
theorem joinB_any (xs : List Pl.Bs) (a : Option Addr) (cap b o : Nat) (W : World) (ha : 0 < xs.length → a = some ⟨b, o, none⟩ ∧ RdN W b o xs) (hbW : 0 < xs.length → b < W.heap.size) (hc : xs.length ≤ cap) (hl : (Lib.join xs [32]).length ≤ 1073741824) (hn : xs.length ≤ 1073741824) :
    Calls Tryz.prog 144 #[.slice a xs.length cap, .string ⟨#[32]⟩] W fun e w' => e = .returned (.string ⟨(Lib.join xs [32]).toArray⟩) ∧ Below W.heap.size W w' := by
  by_cases h0 : 0 < xs.length
  · obtain ⟨rfl, hr⟩ := ha h0
    have hm : (xs.map fun x => (⟨x.toArray⟩ : ByteArray)).map (fun y : ByteArray => y.data.toList) = xs := by
      rw [List.map_map]
      exact (List.map_congr_left (fun x _ => rfl)).trans (List.map_id xs)
    have := Any.strings_Join Tryz.lay156 Tryz.layX b o cap (xs.map fun x => (⟨x.toArray⟩ : ByteArray)) ⟨#[32]⟩ W (fun j x hx => by
      rw [List.getElem?_map] at hx
      cases hj : xs[j]? with
      | none => rw [hj] at hx; cases hx
      | some y =>
        rw [hj] at hx
        cases hx
        exact hr j y hj) (hbW h0) (by rw [List.length_map]; omega) (by rw [List.length_map]; exact hc) (by rw [hm]; show (Lib.join xs [32]).length ≤ _; omega)
    rw [List.length_map, hm] at this
    exact this
  · have : xs = [] := List.eq_nil_of_length_eq_zero (by omega)
    subst this
    refine (Any.strings_Join_none Tryz.lay156 Tryz.layX a cap ⟨#[32]⟩ W).mono ?_
    rintro e w' ⟨rfl, rfl⟩
    exact ⟨rfl, Below.refl _ _⟩
def sgOf (name first all stem : Pl.Bs) (ch : UInt8) : Option Pl.Bs := if ch = 64 then some name else if ch = 60 then some first else if ch = 94 then some all else if ch = 42 then some stem else none
/-- What the signs ask. -/
structure SgM (nb f al : Nat) (name : Pl.Bs) (ph : Bool) (v1 v2 : Value) (first all stem : Pl.Bs) (W : World) : Prop where
  node : Row W nb 197 [strV name, .bool ph, v1, v2, strV stem]
  first : Row W f 9 [strV first]
  all : Row W al 9 [strV all]
theorem SgM.later {nb f al : Nat} {name first all stem : Pl.Bs} {ph : Bool} {v1 v2 : Value} {W W' : World} (h : SgM nb f al name ph v1 v2 first all stem W) (hb : Below W.heap.size W W') : SgM nb f al name ph v1 v2 first all stem W' := ⟨h.node.later hb, h.first.later hb, h.all.later hb⟩
def signV (nb f al : Nat) : Value := .func (.func 145) #[] #[.pointer (some ⟨nb, 0, none⟩), .pointer (some ⟨f, 0, none⟩), .pointer (some ⟨al, 0, none⟩)]
set_option maxHeartbeats 1000000 in
set_option maxRecDepth 100000 in
theorem sgn_of (c : Cel) (nb f al H : Nat) (name first all stem : Pl.Bs) (ph : Bool) (v1 v2 : Value) (h1 : nb < H) (h2 : f < H) (h3 : al < H) (h4 : H ≤ c.r) (h5 : H ≤ c.mm) (l1 : name.length ≤ 1073741824) (l2 : first.length ≤ 1073741824) (l3 : all.length ≤ 1073741824) (l4 : stem.length ≤ 1073741824) :
    Sgn c (signV nb f al) (sgOf name first all stem) (SgM nb f al name ph v1 v2 first all stem) := by
  refine ⟨⟨_, _, rfl, enters_of Tryz.func145 (by kernel_rfl) rfl, fun W hS ch => ?_⟩, fun W W' h ht => ⟨h.node.tn ht (by omega), h.first.tn ht (by omega), h.all.tn ht (by omega)⟩⟩
  show Calls Tryz.prog 145 #[.int .u8 ch.toNat, .pointer (some ⟨nb, 0, none⟩), .pointer (some ⟨f, 0, none⟩), .pointer (some ⟨al, 0, none⟩)] W _
  have c0 := hS.node.cell? (i := 0) rfl
  have c4 := hS.node.cell? (i := 4) rfl
  have cf := hS.first.cell? (i := 0) rfl
  have ca := hS.all.cell? (i := 0) rfl
  have hne : ∀ (k : UInt8), ch ≠ k → (((ch.toNat : Nat) : Int) == ((k.toNat : Nat) : Int)) = false := fun k hk => by
    rw [beq_eq_false_iff_ne]
    exact fun e => hk (UInt8.toNat_inj.1 (by omega))
  unfold strV at c0 c4 cf ca
  clear hS
  have key : ∀ (p : Pl.Bs) (ok : Bool), sgOf name first all stem ch = (if ok then some p else none) → p.length ≤ 1073741824 → (∃ (p' : Pl.Bs) (ok' : Bool), (.returned (.tuple #[.string ⟨p.toArray⟩, .bool ok]) : Ending) = .returned (.tuple #[.string ⟨p'.toArray⟩, .bool ok']) ∧ sgOf name first all stem ch = (if ok' then some p' else none) ∧ p'.length ≤ 1073741824) ∧ Below W.heap.size W W := fun p ok e hl => ⟨⟨p, ok, rfl, e, hl⟩, Below.refl _ _⟩
  have KEY := hide key
  clear key
  by_cases e1 : ch = 64
  · have E : Hid (sgOf name first all stem ch = some name) := by rw [e1]; rfl
    have b1 : (((ch.toNat : Nat) : Int) == 64) = true := by rw [e1]; rfl
    go_enter Tryz.func145, Tryz.ntmps145
    go_wp2_with fail
    go_ret2
    exact unhide KEY name true (unhide E) l1
  by_cases e2 : ch = 60
  · have E : Hid (sgOf name first all stem ch = some first) := by rw [e2]; rfl
    have b1 : (((ch.toNat : Nat) : Int) == 64) = false := hne 64 e1
    have b2 : (((ch.toNat : Nat) : Int) == 60) = true := by rw [e2]; rfl
    go_enter Tryz.func145, Tryz.ntmps145
    go_wp2_with fail
    go_ret2
    exact unhide KEY first true (unhide E) l2
  by_cases e3 : ch = 94
  · have E : Hid (sgOf name first all stem ch = some all) := by rw [e3]; rfl
    have b1 : (((ch.toNat : Nat) : Int) == 64) = false := hne 64 e1
    have b2 : (((ch.toNat : Nat) : Int) == 60) = false := hne 60 e2
    have b3 : (((ch.toNat : Nat) : Int) == 94) = true := by rw [e3]; rfl
    go_enter Tryz.func145, Tryz.ntmps145
    go_wp2_with fail
    go_ret2
    exact unhide KEY all true (unhide E) l3
  by_cases e4 : ch = 42
  · have E : Hid (sgOf name first all stem ch = some stem) := by rw [e4]; rfl
    have b1 : (((ch.toNat : Nat) : Int) == 64) = false := hne 64 e1
    have b2 : (((ch.toNat : Nat) : Int) == 60) = false := hne 60 e2
    have b3 : (((ch.toNat : Nat) : Int) == 94) = false := hne 94 e3
    have b4 : (((ch.toNat : Nat) : Int) == 42) = true := by rw [e4]; rfl
    go_enter Tryz.func145, Tryz.ntmps145
    go_wp2_with fail
    go_ret2
    exact unhide KEY stem true (unhide E) l4
  · have E : Hid (sgOf name first all stem ch = none) := by
      show sgOf name first all stem ch = none
      unfold sgOf
      rw [if_neg e1, if_neg e2, if_neg e3, if_neg e4]
    have b1 : (((ch.toNat : Nat) : Int) == 64) = false := hne 64 e1
    have b2 : (((ch.toNat : Nat) : Int) == 60) = false := hne 60 e2
    have b3 : (((ch.toNat : Nat) : Int) == 94) = false := hne 94 e3
    have b4 : (((ch.toNat : Nat) : Int) == 42) = false := hne 42 e4
    go_enter Tryz.func145, Tryz.ntmps145
    go_wp2_with fail
    go_ret2
    exact unhide KEY [] false (unhide E) (by simp)
end Go.Proofs.YtjelacjggijmfaaGreatDoor
namespace Go.Proofs.YtjelacjggijmfaaGreatDoor
open Go.RowKit Go.MapKept Go.ChangeMaps Go.Maps

set_option maxHeartbeats 1000000 in
set_option maxRecDepth 100000 in
theorem signsOf_any (name stem : Pl.Bs) (ph : Bool) (needs : List Pl.Bs) (a am : Option Addr) (cap b o nm cm : Nat) (W : World) (ha : 0 < needs.length → a = some ⟨b, o, none⟩ ∧ RdN W b o needs) (hbW : 0 < needs.length → b < W.heap.size) (hc : needs.length ≤ cap) (hl : (Lib.join needs [32]).length ≤ 1073741824) (hn : needs.length ≤ 1073741824) :
    Calls Tryz.prog 93 #[nodeV name ph (.slice a needs.length cap) (.slice am nm cm) stem] W fun e W' => ∃ nb f al, e = .returned (signV nb f al) ∧ SgM nb f al name ph (.slice a needs.length cap) (.slice am nm cm) (needs.headD []) (Lib.join needs [32]) stem W' ∧ Below W.heap.size W W' := by
  have hz1 : (W.alloc (.cells #[strV name, .bool ph, .slice a needs.length cap, .slice am nm cm, strV stem] 197)).heap.size = W.heap.size + 1 := World.size_alloc _ _
  have q1 := (Below.refl W.heap.size W).alloc (Nat.le_refl _) (.cells #[strV name, .bool ph, .slice a needs.length cap, .slice am nm cm, strV stem] 197)
  have rN := Row.new W 197 [strV name, .bool ph, .slice a needs.length cap, .slice am nm cm, strV stem]
  have HZ : Hid (∀ x : Value, Below W.heap.size W ((W.alloc (.cells #[strV name, .bool ph, .slice a needs.length cap, .slice am nm cm, strV stem] 197)).alloc (.cells #[x] 9)) ∧ Row ((W.alloc (.cells #[strV name, .bool ph, .slice a needs.length cap, .slice am nm cm, strV stem] 197)).alloc (.cells #[x] 9)) W.heap.size 197 [strV name, .bool ph, .slice a needs.length cap, .slice am nm cm, strV stem] ∧ Row ((W.alloc (.cells #[strV name, .bool ph, .slice a needs.length cap, .slice am nm cm, strV stem] 197)).alloc (.cells #[x] 9)) (W.heap.size + 1) 9 [x]) := fun x => by
    have r2 := Row.new (W.alloc (.cells #[strV name, .bool ph, .slice a needs.length cap, .slice am nm cm, strV stem] 197)) 9 [x]
    rw [hz1] at r2
    exact ⟨q1.alloc (by omega) _, rN.alloc _, r2⟩
  have CJ := hide (fun (Z : World) (hb : Below W.heap.size W Z) => joinB_any needs a cap b o Z (fun e => ⟨(ha e).1, (ha e).2.below hb (hbW e)⟩) (fun e => Nat.lt_of_lt_of_le (hbW e) hb.size) hc hl hn)
  clear q1 rN hz1
  unfold nodeV
  match needs, ha, hbW, HZ, CJ with
  | [], _, _, HZ, CJ =>
    unfold strV at *
    dsimp only [List.length_nil, List.headD_nil] at *
    go_enter Tryz.func93, Tryz.ntmps93
    go_wp2_with (first
      | (go_at_call 144; refine (unhide CJ _ (unhide HZ (.string ⟨#[]⟩)).1).mono ?_; rintro e w2 ⟨rfl, hb2⟩; have HE := hide (SgM.mk (((unhide HZ (.string ⟨#[]⟩)).2.1.later hb2).alloc (.cells #[.string ⟨(Lib.join [] [32]).toArray⟩] 9)) (((unhide HZ (.string ⟨#[]⟩)).2.2.later hb2).alloc (.cells #[.string ⟨(Lib.join [] [32]).toArray⟩] 9)) (Row.new w2 9 [.string ⟨(Lib.join [] [32]).toArray⟩])); have HB2 := hide (((unhide HZ (.string ⟨#[]⟩)).1.trans (hb2.mono (unhide HZ (.string ⟨#[]⟩)).1.size)).alloc (by have := hb2.size; have := (unhide HZ (.string ⟨#[]⟩)).1.size; omega) (.cells #[.string ⟨(Lib.join [] [32]).toArray⟩] 9)); clear hb2)
      | fail)
    go_ret
    exact ⟨_, _, _, rfl, unhide HE, unhide HB2⟩
  | x :: r, ha, hbW, HZ, CJ =>
    obtain ⟨rfl, hr⟩ := ha (by simp)
    have HA := hide hr
    have c0 : W.cell? ⟨b, o, none⟩ = some (strV x) := hr 0 x rfl
    have hbl := hbW (by simp)
    clear ha hbW hr
    have t1 : (0 : Int) < ((x :: r).length : Nat) := by simp only [List.length_cons]; omega
    unfold strV at *
    dsimp only [List.headD_cons] at *
    generalize hL : (x :: r).length = n at *
    have HD := hide c0
    go_enter Tryz.func93, Tryz.ntmps93
    go_wp2_with (first
      | (go_at_call 144; refine (unhide CJ _ (unhide HZ (.string ⟨x.toArray⟩)).1).mono ?_; rintro e w2 ⟨rfl, hb2⟩; have HE := hide (SgM.mk (((unhide HZ (.string ⟨x.toArray⟩)).2.1.later hb2).alloc (.cells #[.string ⟨(Lib.join (x :: r) [32]).toArray⟩] 9)) (((unhide HZ (.string ⟨x.toArray⟩)).2.2.later hb2).alloc (.cells #[.string ⟨(Lib.join (x :: r) [32]).toArray⟩] 9)) (Row.new w2 9 [.string ⟨(Lib.join (x :: r) [32]).toArray⟩])); have HB2 := hide (((unhide HZ (.string ⟨x.toArray⟩)).1.trans (hb2.mono (unhide HZ (.string ⟨x.toArray⟩)).1.size)).alloc (by have := hb2.size; have := (unhide HZ (.string ⟨x.toArray⟩)).1.size; omega) (.cells #[.string ⟨(Lib.join (x :: r) [32]).toArray⟩] 9)); clear hb2)
      | fail)
    go_ret
    exact ⟨_, _, _, rfl, unhide HE, unhide HB2⟩
end Go.Proofs.YtjelacjggijmfaaGreatDoor
namespace Go.Proofs.YtjelacjggijmfaaGreatDoor
open Go.RowKit Go.MapKept Go.ChangeMaps Go.Maps

/-- A node, with its commands and their lines. -/
structure Nod where
  name : Pl.Bs
  ph : Bool
  needs : List Pl.Bs
  stem : Pl.Bs
  cmds : List (Pl.Bs × Nat)
/-- What a node's commands come to: an error and its line, or how many there are so far, and those that are kept. -/
def GiveR (N : Pl.Bs → Cp.Nv) (sg : UInt8 → Option Pl.Bs) : List (Pl.Bs × Nat) → Nat → List Pl.Bs → (Nat × Nat) ⊕ (Nat × List Pl.Bs) → Prop
  | [], k, acc, R => R = .inr (k, acc)
  | c :: rest, k, acc, R => ∃ r : Cp.Er, Cp.Exp N sg [] 0 [] c.1 r ∧ (if r.er ≠ 0 then R = .inl (r.er, c.2) else if Mk.cut r.txt = [] then GiveR N sg rest k acc R else GiveR N sg rest (k + 1) (if k + 1 ≤ 500 then acc ++ [r.txt] else acc) R)
def Nod.sg (x : Nod) : UInt8 → Option Pl.Bs := sgOf x.name (x.needs.headD []) (Lib.join x.needs [32]) x.stem
def StepsR (N : Pl.Bs → Cp.Nv) : List Nod → Nat → List Stp → (Nat × Nat) ⊕ (Nat × List Stp) → Prop
  | [], k, acc, R => R = .inr (k, acc)
  | x :: rest, k, acc, R => ∃ G, GiveR N x.sg x.cmds k [] G ∧ (match G with
    | .inl e => R = .inl e
    | .inr (k', cs) => StepsR N rest k' (acc ++ [⟨x.name, x.ph, x.needs, x.stem, cs⟩]) R)
def RdC (W : World) (b o : Nat) (cs : List (Pl.Bs × Nat)) : Prop := ∀ (j : Nat) (x : Pl.Bs × Nat), cs[j]? = some x → W.cell? ⟨b, o + j * 2, none⟩ = some (strV x.1) ∧ W.cell? ⟨b, o + j * 2 + 1, none⟩ = some (.int .i64 (x.2 : Int))
theorem RdC.below {W W' : World} {b o L : Nat} {cs : List (Pl.Bs × Nat)} (h : RdC W b o cs) (hb : Below L W W') (hl : b < L) : RdC W' b o cs := fun j x hj => ⟨(hb.cell (p := ⟨b, _, none⟩) hl).trans (h j x hj).1, (hb.cell (p := ⟨b, _, none⟩) hl).trans (h j x hj).2⟩
/-- A node in memory. -/
def NdR (W : World) (L b o : Nat) (x : Nod) : Prop := ∃ (an am : Option Addr) (cn cm nb no mb mo : Nat),
  Row6 W b o [strV x.name, .bool x.ph, .slice an x.needs.length cn, .slice am x.cmds.length cm, strV x.stem] ∧ x.needs.length ≤ cn ∧ (0 < x.needs.length → an = some ⟨nb, no, none⟩ ∧ nb < L ∧ RdN W nb no x.needs) ∧ (0 < x.cmds.length → am = some ⟨mb, mo, none⟩ ∧ mb < L ∧ RdC W mb mo x.cmds)
/-- A step that is made: its cells. -/
def SvR (w : World) (L : Nat) (x : Stp) (c : List Value) : Prop := ∃ (an ac am : Option Addr) (cn cc nb no cb co nm cm : Nat),
  c = [strV x.name, .bool x.ph, .slice an x.needs.length cn, .slice am nm cm, strV x.stem, .slice ac x.cmds.length cc] ∧ (0 < x.needs.length → an = some ⟨nb, no, none⟩ ∧ nb < L ∧ RdN w nb no x.needs) ∧
  (0 < x.cmds.length → ac = some ⟨cb, co, none⟩ ∧ cb < w.heap.size ∧ (∃ cur fz, w.heap[cb]? = some (.cells cur 9 fz)) ∧ RdN w cb co x.cmds)
theorem cell_same {w w' : World} {b o : Nat} (h : w'.heap[b]? = w.heap[b]?) : w'.cell? ⟨b, o, none⟩ = w.cell? ⟨b, o, none⟩ := by
  unfold World.cell?
  simp only
  rw [h]
theorem RdN.same {w w' : World} {b o : Nat} {ss : List Pl.Bs} (h : RdN w b o ss) (hb : w'.heap[b]? = w.heap[b]?) : RdN w' b o ss := fun j x hj => (cell_same hb).trans (h j x hj)
theorem SvR.same {w w' : World} {L : Nat} {x : Stp} {c : List Value} (h : SvR w L x c) (hs : w.heap.size ≤ w'.heap.size) (h1 : ∀ k, k < L → w'.heap[k]? = w.heap[k]?) (h2 : ∀ (k : Nat) (cur : Array Value) (fz : Nat × Nat), w.heap[k]? = some (Obj.cells cur 9 fz) → w'.heap[k]? = w.heap[k]?) : SvR w' L x c := by
  obtain ⟨an, ac, am, cn, cc, nb, no, cb, co, nm, cm, e, hn, hc⟩ := h
  refine ⟨an, ac, am, cn, cc, nb, no, cb, co, nm, cm, e, fun q => ?_, fun q => ?_⟩
  · obtain ⟨q1, q2, q3⟩ := hn q
    exact ⟨q1, q2, q3.same (h1 nb q2)⟩
  · obtain ⟨q1, q2, ⟨cur, fz, q3⟩, q4⟩ := hc q
    have hk := h2 cb cur fz q3
    exact ⟨q1, by omega, ⟨cur, fz, hk.trans q3⟩, q4.same hk⟩
def StC (w : World) (L : Nat) : List Stp → List Value → Prop
  | [], c => c = []
  | x :: r, c => ∃ a b, c = a ++ b ∧ SvR w L x a ∧ StC w L r b
theorem StC.same {w w' : World} {L : Nat} (hs : w.heap.size ≤ w'.heap.size) (h1 : ∀ k, k < L → w'.heap[k]? = w.heap[k]?) (h2 : ∀ (k : Nat) (cur : Array Value) (fz : Nat × Nat), w.heap[k]? = some (Obj.cells cur 9 fz) → w'.heap[k]? = w.heap[k]?) : ∀ (xs : List Stp) (c : List Value), StC w L xs c → StC w' L xs c
  | [], _, h => h
  | _ :: r, _, ⟨a, b, e, h3, h4⟩ => ⟨a, b, e, SvR.same h3 hs h1 h2, StC.same hs h1 h2 r b h4⟩
theorem StC.snoc {w : World} {L : Nat} : ∀ (xs : List Stp) (c : List Value) (x : Stp) (d : List Value), StC w L xs c → SvR w L x d → StC w L (xs ++ [x]) (c ++ d)
  | [], c, x, d, h, hd => by
    have : c = [] := h
    subst this
    exact ⟨d, [], by simp, hd, rfl⟩
  | y :: r, _, x, d, ⟨a, b, e, h1, h2⟩, hd => by
    subst e
    exact ⟨a, b ++ d, by simp, h1, StC.snoc r b x d h2 hd⟩
theorem SvR.length {w : World} {L : Nat} {x : Stp} {c : List Value} (h : SvR w L x c) : c.length = 6 := by
  obtain ⟨an, ac, am, cn, cc, nb, no, cb, co, nm, cm, rfl, -⟩ := h
  rfl
theorem StC.at {w : World} {L : Nat} : ∀ (xs : List Stp) (c : List Value) (_ : StC w L xs c) (i : Nat) (hi : i < xs.length), ∃ a, SvR w L xs[i] a ∧ ∀ j, j < 6 → c[i * 6 + j]? = a[j]?
  | x :: r, _, ⟨a, b, e, h1, h2⟩, 0, _ => by
    subst e
    refine ⟨a, h1, fun j hj => ?_⟩
    rw [Nat.zero_mul, Nat.zero_add, List.getElem?_append_left (by rw [h1.length]; exact hj)]
  | x :: r, _, ⟨a, b, e, h1, h2⟩, i + 1, hi => by
    subst e
    obtain ⟨a', q1, q2⟩ := StC.at r b h2 i (by simpa using hi)
    refine ⟨a', q1, fun j hj => ?_⟩
    rw [List.getElem?_append_right (by rw [h1.length]; omega), h1.length, show (i + 1) * 6 + j - 6 = i * 6 + j by omega]
    exact q2 j hj
  | [], _, _, _, hi => by simp at hi
end Go.Proofs.YtjelacjggijmfaaGreatDoor
