/-
  A plan is written: bytes are copied over bytes of the code.
  A plan is written: what is left out if a node is not stale.
  A plan is written: what pushes whether a node is stale: the walk.
  A plan is written: what pushes whether a node is stale.
-/
import Derived.Test.YtjelacjggijmfaaGreatDoorVWR2
import Derived.Laws.CopyOwn
namespace Go.Proofs.YtjelacjggijmfaaGreatDoor
open Go.RowKit Go.MapKept Go.ChangeMaps Go.Maps

abbrev Flags := List (Pl.Bs × Nat)
def flEnts (fl : Flags) : Ents := fl.map fun x => (x.1, Value.int .i64 (x.2 : Int))
def flagOf (fl : Flags) (k : Pl.Bs) : Nat := ((fl.find? fun x => x.1 == k).map (·.2)).getD 0
theorem mget_fl (k : Pl.Bs) : ∀ fl : Flags, (mget (flEnts fl) k).getD (.int .i64 0) = .int .i64 (flagOf fl k : Int)
  | [] => rfl
  | x :: r => by
    have ih := mget_fl k r
    unfold mget flEnts flagOf at *
    rw [List.map_cons, List.find?_cons, List.find?_cons]
    cases hx : (x.1 == k) with
    | true => simp
    | false => simp only; exact ih
theorem flagOf_lt (k : Pl.Bs) (n : Nat) (hn : 0 < n) (fl : Flags) (h : ∀ x ∈ fl, x.2 < n) : flagOf fl k < n := by
  unfold flagOf
  cases hf : fl.find? (fun x => x.1 == k) with
  | none => exact hn
  | some x => exact h _ (List.mem_of_find?_eq_some hf)
theorem num_le (p : Cp.Wr) (s : Pl.Bs) : p.num s ≤ p.strs.length := by
  unfold Cp.Wr.num
  cases hf : p.strs.findIdx? (fun x => x == s) with
  | none => exact Nat.le_refl _
  | some i => exact Nat.le_of_lt (List.findIdx?_eq_some_iff_getElem.1 hf).1
theorem str_len (p : Cp.Wr) (s : Pl.Bs) : (p.str s).strs.length ≤ p.strs.length + 1 := by
  unfold Cp.Wr.str
  cases hf : p.strs.findIdx? (fun x => x == s) with
  | none => simp
  | some i => simp
theorem str_code (p : Cp.Wr) (s : Pl.Bs) : (p.str s).code = p.code := by
  unfold Cp.Wr.str
  cases hf : p.strs.findIdx? (fun x => x == s) with
  | none => rfl
  | some i => rfl
theorem addAt_strs (p : Cp.Wr) (op : Nat) (os : List Nat) : ∀ i, (addAt p op os i).strs = p.strs
  | 0 => rfl
  | i + 1 => addAt_strs p op os i
def addW (p : Cp.Wr) (op : Nat) (os : List Nat) : Cp.Wr := addAt p op os 2
theorem addW_len (p : Cp.Wr) (op : Nat) (os : List Nat) : (addW p op os).code.length ≤ p.code.length + 5 := addAt_len p op os 2
theorem addW_strs (p : Cp.Wr) (op : Nat) (os : List Nat) : (addW p op os).strs = p.strs := addAt_strs p op os 2
def staleStep (fl : Flags) (nm : Nat) (q : Cp.Wr) (need : Pl.Bs) : Cp.Wr :=
  addW (addW ((addW (addW q 4 [flagOf fl need]) 5 []).str need) 3 [nm, (addW (addW q 4 [flagOf fl need]) 5 []).num need]) 5 []
def staleW (fl : Flags) (p : Cp.Wr) (phony : Bool) (name : Pl.Bs) (needs : List Pl.Bs) : Cp.Wr :=
  if phony then addW p 1 [1] else needs.foldl (staleStep fl (p.num name)) (addW (p.str name) 2 [p.num name])
theorem staleStep_strs (fl : Flags) (nm : Nat) (q : Cp.Wr) (need : Pl.Bs) : (staleStep fl nm q need).strs.length ≤ q.strs.length + 1 := by
  unfold staleStep
  rw [addW_strs, addW_strs]
  refine Nat.le_trans (str_len _ _) ?_
  rw [addW_strs, addW_strs]
  exact Nat.le_refl _
theorem staleStep_len (fl : Flags) (nm : Nat) (q : Cp.Wr) (need : Pl.Bs) : (staleStep fl nm q need).code.length ≤ q.code.length + 20 := by
  unfold staleStep
  have h1 := addW_len q 4 [flagOf fl need]
  have h2 := addW_len (addW q 4 [flagOf fl need]) 5 []
  have h3 := addW_len ((addW (addW q 4 [flagOf fl need]) 5 []).str need) 3 [nm, (addW (addW q 4 [flagOf fl need]) 5 []).num need]
  have h4 := addW_len (addW ((addW (addW q 4 [flagOf fl need]) 5 []).str need) 3 [nm, (addW (addW q 4 [flagOf fl need]) 5 []).num need]) 5 []
  rw [str_code] at h3
  omega
theorem staleFold_len (fl : Flags) (nm : Nat) : ∀ (needs : List Pl.Bs) (q : Cp.Wr), (needs.foldl (staleStep fl nm) q).strs.length ≤ q.strs.length + needs.length ∧ (needs.foldl (staleStep fl nm) q).code.length ≤ q.code.length + 20 * needs.length
  | [], q => ⟨Nat.le_refl _, Nat.le_refl _⟩
  | n :: r, q => by
    have ih := staleFold_len fl nm r (staleStep fl nm q n)
    have h1 := staleStep_strs fl nm q n
    have h2 := staleStep_len fl nm q n
    rw [List.foldl_cons, List.length_cons]
    omega
theorem staleW_len (fl : Flags) (p : Cp.Wr) (ph : Bool) (name : Pl.Bs) (needs : List Pl.Bs) : (staleW fl p ph name needs).strs.length ≤ p.strs.length + 1 + needs.length ∧ (staleW fl p ph name needs).code.length ≤ p.code.length + 5 + 20 * needs.length := by
  unfold staleW
  cases ph with
  | true =>
    rw [if_pos rfl, addW_strs]
    have := addW_len p 1 [1]
    omega
  | false =>
    simp only [Bool.false_eq_true, if_false]
    have h1 := staleFold_len fl (p.num name) needs (addW (p.str name) 2 [p.num name])
    have h2 := addW_len (p.str name) 2 [p.num name]
    have h3 := str_len p name
    rw [addW_strs] at h1
    rw [str_code] at h2
    omega

section
variable {B wb nb : Nat} {p : Cp.Wr} {vs vc : Value} {W : World}
/-- What Add leaves. -/
def AddP (B wb nb : Nat) (p : Cp.Wr) (vs vc : Value) (W : World) (op : Nat) (os : List Nat) (e : Ending) (W' : World) : Prop := e = .returned (.tuple #[]) ∧ ∃ vc', WrM W' B wb nb (addW p op os) vs vc' ∧ WrT wb nb vs vc vs vc' W W'
theorem wrAdd0 (h : WrM W B wb nb p vs vc) (hB : B ≤ W.heap.size) (hcl : p.code.length ≤ 1073741824) (op : Nat) (o : Int) (ho : o = op) (hop : op < 256) :
    Calls Tryz.prog 100 #[.pointer (some ⟨wb, 0, none⟩), .int .u8 o, .slice none 0 0] W (AddP B wb nb p vs vc W op []) := by
  subst ho
  exact wrAdd_any B wb nb p vs vc op [] none 0 0 W h hB hop (by simp) (by simp) (fun e => absurd e (by simp)) hcl
theorem wrAdds (h : WrM W B wb nb p vs vc) (hB : B ≤ W.heap.size) (hcl : p.code.length ≤ 1073741824) (op : Nat) (o : Int) (ho : o = op) (hop : op < 256) (os : List Nat) (hos : ∀ x ∈ os, x < 2147483648) (hl : os.length ≤ 2) (n : Nat) (hn : n = os.length) (N : Nat) (hN : N = W.heap.size) (cs : Array Value) (hcs : cs = (os.map fun x : Nat => Value.int .i64 (x : Int)).toArray) :
    Calls Tryz.prog 100 #[.pointer (some ⟨wb, 0, none⟩), .int .u8 o, .slice (some ⟨N, 0, none⟩) n n] (W.alloc (.cells cs 3)) (AddP B wb nb p vs vc W op os) := by
  subst ho
  subst hn
  subst hN
  subst hcs
  have hb := (Below.refl W.heap.size W).alloc (Nat.le_refl _) (.cells (os.map fun x : Nat => Value.int .i64 (x : Int)).toArray 3)
  refine (wrAdd_any B wb nb p vs vc op os (some ⟨W.heap.size, 0, none⟩) os.length W.heap.size _ (h.later hb) (Nat.le_trans hB hb.size) hop hos hl (fun _ => ⟨rfl, Row.new W _ _⟩) hcl).mono ?_
  rintro e w1 ⟨rfl, vc', h1, h2⟩
  exact ⟨rfl, vc', h1, (WrT.later hb).trans h2⟩
theorem WrM.size (h : WrM W B wb nb p vs vc) : wb < W.heap.size ∧ nb < W.heap.size := ⟨h.row.lt, h.nums.lt⟩
/-- Nothing below has turned. -/
theorem WrT.below {vs' vc' : Value} {W' : World} (h : WrM W B wb nb p vs vc) (ht : WrT wb nb vs vc vs' vc' W W') {L : Nat} (h1 : L ≤ wb) (h2 : L ≤ nb) : Below L W W' :=
  ht.tn.below (Nat.le_trans h1 (Nat.le_of_lt h.size.1)) (fun k e => by
    have := h.wB
    rcases e with e | e | e | e
    · omega
    · omega
    · have := (h.strs.lt k e.symm).1; omega
    · have := (h.code.lt k e.symm).1; omega)
/-- A map that is not the writer's stays. -/
theorem SMap.wrt {vs' vc' : Value} {W' : World} {fb : Nat} {l : Ents} (g : SMap W fb l) (h : WrM W B wb nb p vs vc) (ht : WrT wb nb vs vc vs' vc' W W') (h1 : fb < B) (h2 : fb ≠ nb) : SMap W' fb l :=
  g.tn ht.tn (fun e => by
    rcases e with e | e | e | e
    · exact row_ne_map' h.row g e.symm
    · exact h2 e
    · exact own_ne h.strs h1 e
    · exact own_ne h.code h1 e)
end
def nodeV (name : Pl.Bs) (ph : Bool) (needs cmds : Value) (stem : Pl.Bs) : Value := .agg #[strV name, .bool ph, needs, cmds, strV stem]
/-- Strings that lie in a row. -/
def RdN (W : World) (b o : Nat) (ss : List Pl.Bs) : Prop := ∀ (j : Nat) (x : Pl.Bs), ss[j]? = some x → W.cell? ⟨b, o + j, none⟩ = some (strV x)
theorem RdN.below {W W' : World} {b o L : Nat} {ss : List Pl.Bs} (h : RdN W b o ss) (hb : Below L W W') (hl : b < L) : RdN W' b o ss := fun j x hj => (hb.cell (p := ⟨b, o + j, none⟩) hl).trans (h j x hj)
end Go.Proofs.YtjelacjggijmfaaGreatDoor
namespace Go.Proofs.YtjelacjggijmfaaGreatDoor
open Go.RowKit Go.MapKept Go.ChangeMaps Go.Maps

/-- What stands when some of it is written. -/
def WrX (W : World) (B wb nb : Nat) (vs vc : Value) (q : Cp.Wr) (wr : World) : Prop := ∃ vs' vc', WrM wr B wb nb q vs' vc' ∧ WrT wb nb vs vc vs' vc' W wr
set_option maxHeartbeats 1000000 in
set_option maxRecDepth 100000 in
theorem writeStale_any (B L wb nb fb : Nat) (p : Cp.Wr) (vs vc : Value) (fl : Flags) (name stem : Pl.Bs) (ph : Bool) (needs : List Pl.Bs) (a : Option Addr) (cap b o : Nat) (cmds : Value) (W : World) (h : WrM W B wb nb p vs vc) (hB : B ≤ W.heap.size) (hL1 : L ≤ wb) (hL2 : L ≤ nb)
    (hf : SMap W fb (flEnts fl)) (hfB : fb < B) (hfn : fb ≠ nb) (hfl : ∀ x ∈ fl, x.2 < 2147483648)
    (ha : 0 < needs.length → a = some ⟨b, o, none⟩ ∧ b < L ∧ RdN W b o needs) (hn : needs.length ≤ 1000) (hsl : p.strs.length ≤ 1000000) (hcl : p.code.length ≤ 1000000000) :
    Calls Tryz.prog 97 #[.pointer (some ⟨wb, 0, none⟩), nodeV name ph (.slice a needs.length cap) cmds stem, .map (some fb)] W fun e W' => e = .returned (.tuple #[]) ∧ WrX W B wb nb vs vc (staleW fl p ph name needs) W' := by
  have zi : ∀ w, (zeroValue 3).run Tryz.prog w = .ok (.int .i64 0) w := fun w => by kernel_rfl
  have HB0 := hide ((Below.refl W.heap.size W).alloc (Nat.le_refl _) (.cells #[strV name, .bool ph, .slice a needs.length cap, cmds, strV stem] 197))
  have HM := hide (h.later (unhide HB0))
  have HT := hide (WrT.later (wb := wb) (nb := nb) (vs := vs) (vc := vc) (unhide HB0))
  have hB1 := Nat.le_trans hB (unhide HB0).size
  have HF := hide hf
  have HFL := hide hfl
  have HA := hide ha
  have H0 := hide h
  clear h ha hfl hf
  cases ph with
  | true =>
    have e0 : staleW fl p true name needs = addW p 1 [1] := rfl
    rw [e0]
    have C1 := hide (wrAdds (unhide HM) hB1 (by omega) 1 1 rfl (by decide) [1] (by simp) (by simp) 1 rfl (W.heap.size + 1) (World.size_alloc _ _).symm #[.int .i64 1] rfl)
    unfold nodeV strV at *
    go_enter Tryz.func97, Tryz.ntmps97
    go_wp2_with (first
      | (go_at_call 100; refine (unhide C1).mono ?_; rintro e w1 ⟨rfl, vc1, hm1, ht1⟩)
      | fail)
    refine bodyPost_ret (results_none rfl _ _ _) rfl ?_
    exact ⟨rfl, _, _, hm1, (unhide HT).trans ht1⟩
  | false =>
    have e0 : staleW fl p false name needs = needs.foldl (staleStep fl (p.num name)) (addW (p.str name) 2 [p.num name]) := rfl
    rw [e0]
    have HR0 := hide (Row.new W 197 [strV name, .bool false, .slice a needs.length cap, cmds, strV stem])
    have hnl := num_le p name
    have C1 := hide (wrString_any B wb nb p vs vc name _ (unhide HM) hB1 (by omega))
    have hcl1 : (p.str name).code.length ≤ 1000000000 := by rw [str_code]; exact hcl
    have hsl1 : (p.str name).strs.length ≤ 1000001 := by have := str_len p name; omega
    have hsl2 := staleFold_len fl (p.num name)
    unfold nodeV strV at *
    go_enter Tryz.func97, Tryz.ntmps97
    go_wp2_with (first
      | (go_at_call 101; refine (unhide C1).mono ?_; rintro e w1 ⟨rfl, vs1, hm1, ht1⟩; have hB2 := Nat.le_trans hB1 ht1.tn.size; have HM1 := hide hm1; have HT1 := hide ((unhide HT).trans ht1); have HR1 := hide ((unhide HR0).wrt (unhide HM) ht1 (by decide) (by decide) (by decide)); clear hm1 ht1)
      | (go_at_call 100; refine (wrAdds (unhide HM1) hB2 (by omega) 2 2 rfl (by decide) [p.num name] (by intro x hx; rw [List.mem_singleton] at hx; omega) (by simp) 1 rfl _ rfl #[.int .i64 (p.num name)] rfl).mono ?_; rintro e w2 ⟨rfl, vc2, hm2, ht2⟩; have c2 := ((unhide HR1).wrt (unhide HM1) ht2 (by decide) (by decide) (by decide)).cell? (i := 2) rfl; have HX0 : Hid (WrX W B wb nb vs vc (addW (p.str name) 2 [p.num name]) w2) := ⟨_, _, hm2, (unhide HT1).trans ht2⟩; clear hm2 ht2)
      | fail)
    have hc2 := addW_len (p.str name) 2 [p.num name]
    have hs2 := addW_strs (p.str name) 2 [p.num name]
    generalize hqq : addW (p.str name) 2 [p.num name] = q at *
    have HQQ := hide hqq
    clear hqq
    go_loopw [25] (fun iv wr => ∃ i : Nat, iv = .int .i64 i ∧ i ≤ needs.length ∧ Hid (WrX W B wb nb vs vc ((needs.take i).foldl (staleStep fl (p.num name)) q) wr)) (fun iv _ => needs.length - intN iv)
    case atStart => exact ⟨0, rfl, by omega, HX0⟩
    case round =>
      clear HX0 c2
      obtain ⟨i, rfl, hi2, HX⟩ := hrel
      by_cases hi : i < needs.length
      · have t1 : (i : Int) < needs.length := by omega
        have t0 : (0 : Int) ≤ (i : Int) := by omega
        obtain ⟨vs3, vc3, hm3, ht3⟩ := unhide HX
        obtain ⟨rfl, hbL, hrd⟩ := unhide HA (by omega)
        have cn := hrd.below ((WrT.below (unhide H0) ht3 hL1 hL2)) hbL i needs[i] (List.getElem?_eq_getElem hi)
        have HF3 := hide ((unhide HF).wrt (unhide H0) ht3 hfB hfn)
        have hl3 := hsl2 (needs.take i) q
        rw [List.length_take, Nat.min_eq_left hi2, hs2] at hl3
        have htk : (needs.take (i + 1)).foldl (staleStep fl (p.num name)) q = staleStep fl (p.num name) ((needs.take i).foldl (staleStep fl (p.num name)) q) needs[i] := by
          rw [List.take_add_one, List.foldl_append, List.getElem?_eq_getElem hi]
          rfl
        have hB3 := Nat.le_trans hB ht3.tn.size
        have HTK := hide htk
        have HM3 := hide hm3
        have HT3 := hide ht3
        clear hm3 ht3 htk hrd
        generalize hq3 : (needs.take i).foldl (staleStep fl (p.num name)) q = q3 at *
        generalize hx : needs[i] = x at *
        have hfx := flagOf_lt x 2147483648 (by decide) fl (unhide HFL)
        have hmx := mget_fl x fl
        unfold strV at cn
        have hc4 := addW_len q3 4 [flagOf fl x]
        have hc5 := addW_len (addW q3 4 [flagOf fl x]) 5 []
        have hs4 := addW_strs q3 4 [flagOf fl x]
        have hs5 := addW_strs (addW q3 4 [flagOf fl x]) 5 []
        have hnx := num_le (addW (addW q3 4 [flagOf fl x]) 5 []) x
        have hc6 := str_code (addW (addW q3 4 [flagOf fl x]) 5 []) x
        have hc7 := addW_len ((addW (addW q3 4 [flagOf fl x]) 5 []).str x) 3 [p.num name, (addW (addW q3 4 [flagOf fl x]) 5 []).num x]
        rw [hc6] at hc7
        rw [hs5, hs4] at hnx
        have hnx3 : (addW (addW q3 4 [flagOf fl x]) 5 []).num x < 2147483648 := by omega
        have hnm3 : p.num name < 2147483648 := by omega
        have hl4 : q3.code.length ≤ 1073741824 := by omega
        have hl5 : (addW q3 4 [flagOf fl x]).code.length ≤ 1073741824 := by omega
        have hl6 : (addW (addW q3 4 [flagOf fl x]) 5 []).strs.length ≤ 1048576 := by rw [hs5, hs4]; omega
        have hl7 : ((addW (addW q3 4 [flagOf fl x]) 5 []).str x).code.length ≤ 1073741824 := by rw [hc6]; omega
        have hl8 : (addW ((addW (addW q3 4 [flagOf fl x]) 5 []).str x) 3 [p.num name, (addW (addW q3 4 [flagOf fl x]) 5 []).num x]).code.length ≤ 1073741824 := by omega
        clear hc4 hc5 hs4 hs5 hc6 hc7 hnx hl3
        have C4 := hide (wrAdds (unhide HM3) hB3 hl4 4 4 rfl (by decide) [flagOf fl x] (by intro y hy; rw [List.mem_singleton] at hy; omega) (by simp) 1 rfl _ rfl #[.int .i64 (flagOf fl x)] rfl)
        go_wp2_with (first
          | (at_lookup; refine wpList_look_one _ rfl _ _ 179 rfl 9 3 Tryz.underlying179 Tryz.underlying9 (.int .i64 0) (zi _) fb (flEnts fl) rfl (unhide HF3) x rfl _ hmx ?_)
          | (go_at_call 100; refine (unhide C4).mono ?_; clear C4; rintro e w4 ⟨rfl, vc4, hm4, ht4⟩; have hB4 := Nat.le_trans hB3 ht4.tn.size; have C5 := hide (wrAdd0 hm4 hB4 hl5 5 5 rfl (by decide)); have HT4 := hide ((unhide HT3).trans ht4); clear hm4 ht4)
          | (go_at_call 100; refine (unhide C5).mono ?_; clear C5; rintro e w5 ⟨rfl, vc5, hm5, ht5⟩; have hB5 := Nat.le_trans hB4 ht5.tn.size; have C6 := hide (wrString_any B wb nb _ _ _ x _ hm5 hB5 hl6); have HT5 := hide ((unhide HT4).trans ht5); clear hm5 ht5)
          | (go_at_call 101; refine (unhide C6).mono ?_; clear C6; rintro e w6 ⟨rfl, vs6, hm6, ht6⟩; have hB6 := Nat.le_trans hB5 ht6.tn.size; have C7 := hide (wrAdds hm6 hB6 hl7 3 3 rfl (by decide) [p.num name, (addW (addW q3 4 [flagOf fl x]) 5 []).num x] (by intro y hy; rw [List.mem_cons, List.mem_singleton] at hy; omega) (by simp) 2 rfl _ rfl #[.int .i64 (p.num name), .int .i64 ((addW (addW q3 4 [flagOf fl x]) 5 []).num x)] rfl); have HT6 := hide ((unhide HT5).trans ht6); clear hm6 ht6)
          | (go_at_call 100; refine (unhide C7).mono ?_; clear C7; rintro e w7 ⟨rfl, vc7, hm7, ht7⟩; have hB7 := Nat.le_trans hB6 ht7.tn.size; have C8 := hide (wrAdd0 hm7 hB7 hl8 5 5 rfl (by decide)); have HT7 := hide ((unhide HT6).trans ht7); clear hm7 ht7)
          | (go_at_call 100; refine (unhide C8).mono ?_; clear C8; rintro e w8 ⟨rfl, vc8, hm8, ht8⟩; have HX8 : Hid (WrX W B wb nb vs vc (staleStep fl (p.num name) q3 x) w8) := ⟨_, _, hm8, (unhide HT7).trans ht8⟩; clear hm8 ht8)
          | fail)
        go_roundw
        case rel => exact ⟨i + 1, by go_num, by omega, by rw [unhide HTK]; exact HX8⟩
        case measure => simp only [intN]; omega
      · have hie : i = needs.length := by omega
        subst hie
        have t1 : ¬ (needs.length : Int) < needs.length := by omega
        rw [List.take_length] at HX
        go_wp2_with fail
        go_end0
        exact ⟨rfl, by rw [unhide HQQ]; exact unhide HX⟩
end Go.Proofs.YtjelacjggijmfaaGreatDoor
namespace Go.Proofs.YtjelacjggijmfaaGreatDoor
open Go.RowKit Go.MapKept Go.ChangeMaps Go.Maps

def giveStep (q : Cp.Wr) (c : Pl.Bs) : Cp.Wr := addW (q.str c) 7 [q.num c]
def blockW (p : Cp.Wr) (cmds : List Pl.Bs) (i : Nat) : Cp.Wr := addW (cmds.foldl giveStep p) 8 [i]
theorem giveFold_len : ∀ (cmds : List Pl.Bs) (q : Cp.Wr), (cmds.foldl giveStep q).strs.length ≤ q.strs.length + cmds.length ∧ (cmds.foldl giveStep q).code.length ≤ q.code.length + 5 * cmds.length
  | [], q => ⟨Nat.le_refl _, Nat.le_refl _⟩
  | c :: r, q => by
    have ih := giveFold_len r (giveStep q c)
    have h1 := addW_len (q.str c) 7 [q.num c]
    have h2 := addW_strs (q.str c) 7 [q.num c]
    have h3 := str_len q c
    rw [str_code] at h1
    rw [List.foldl_cons, List.length_cons]
    unfold giveStep at *
    rw [h2] at ih
    omega
theorem blockW_len (p : Cp.Wr) (cmds : List Pl.Bs) (i : Nat) : (blockW p cmds i).strs.length ≤ p.strs.length + cmds.length ∧ (blockW p cmds i).code.length ≤ p.code.length + 5 * cmds.length + 5 := by
  have h1 := giveFold_len cmds p
  have h2 := addW_len (cmds.foldl giveStep p) 8 [i]
  unfold blockW
  rw [addW_strs]
  omega
theorem Row.wrx {W wr : World} {B wb nb b : Nat} {p q : Cp.Wr} {vs vc : Value} {t : TypeId} {us : List Value} (h : Row W b t us) (hm : WrM W B wb nb p vs vc) (hx : WrX W B wb nb vs vc q wr) (h1 : t ≠ 281) (h2 : t ≠ 9) (h3 : t ≠ 5) : Row wr b t us := by
  obtain ⟨vs', vc', _, ht⟩ := hx
  exact h.wrt hm ht h1 h2 h3
set_option maxHeartbeats 2000000 in
set_option maxRecDepth 100000 in
theorem writeBlock_any (B L wb nb sb xb ib i : Nat) (p : Cp.Wr) (vs vc n1 n2 n3 n4 n5 : Value) (cmds : List Pl.Bs) (ac : Option Addr) (cc cb co : Nat) (W : World) (h : WrM W B wb nb p vs vc) (hB : B ≤ W.heap.size) (hL1 : L ≤ wb) (hL2 : L ≤ nb)
    (hs : Row W sb 206 [n1, n2, n3, n4, n5, .slice ac cmds.length cc]) (hx : Row W xb 207 [.pointer (some ⟨wb, 0, none⟩)]) (hi : Row W ib 3 [.int .i64 i]) (hil : i < 2147483648)
    (ha : 0 < cmds.length → ac = some ⟨cb, co, none⟩ ∧ cb < L ∧ RdN W cb co cmds) (hn : cmds.length ≤ 1000) (hsl : p.strs.length ≤ 1000000) (hcl : p.code.length ≤ 1000000000) :
    Calls Tryz.prog 99 #[.pointer (some ⟨sb, 0, none⟩), .pointer (some ⟨xb, 0, none⟩), .pointer (some ⟨ib, 0, none⟩)] W fun e W' => e = .returned (.tuple #[]) ∧ WrX W B wb nb vs vc (blockW p cmds i) W' := by
  have c5 := hs.cell? (i := 5) rfl
  have HX0 : Hid (WrX W B wb nb vs vc p W) := ⟨_, _, h, WrT.refl _⟩
  have HRX := hide hx
  have HRI := hide hi
  have HA := hide ha
  have H0 := hide h
  have hfl := giveFold_len
  clear h ha hx hi hs
  go_enter Tryz.func99, Tryz.ntmps99
  go_wp2_with fail
  go_loopw [8] (fun iv wr => ∃ k : Nat, iv = .int .i64 k ∧ k ≤ cmds.length ∧ Hid (WrX W B wb nb vs vc ((cmds.take k).foldl giveStep p) wr)) (fun iv _ => cmds.length - intN iv)
  case atStart => exact ⟨0, rfl, by omega, HX0⟩
  case round =>
    clear HX0 c5
    obtain ⟨k, rfl, hk2, HX⟩ := hrel
    have cx := ((unhide HRX).wrx (unhide H0) (unhide HX) (by decide) (by decide) (by decide)).cell? (i := 0) rfl
    have hl3 := hfl (cmds.take k) p
    rw [List.length_take, Nat.min_eq_left hk2] at hl3
    by_cases hk : k < cmds.length
    · have t1 : (k : Int) < cmds.length := by omega
      have t0 : (0 : Int) ≤ (k : Int) := by omega
      obtain ⟨vs3, vc3, hm3, ht3⟩ := unhide HX
      obtain ⟨rfl, hbL, hrd⟩ := unhide HA (by omega)
      have cn := hrd.below ((WrT.below (unhide H0) ht3 hL1 hL2)) hbL k cmds[k] (List.getElem?_eq_getElem hk)
      have htk : (cmds.take (k + 1)).foldl giveStep p = giveStep ((cmds.take k).foldl giveStep p) cmds[k] := by
        rw [List.take_add_one, List.foldl_append, List.getElem?_eq_getElem hk]
        rfl
      have hB3 := Nat.le_trans hB ht3.tn.size
      have HTK := hide htk
      have HRX3 := hide ((unhide HRX).wrt (unhide H0) ht3 (by decide) (by decide) (by decide))
      generalize hq3 : (cmds.take k).foldl giveStep p = q3 at *
      generalize hxx : cmds[k] = x at *
      have hb9 := (Below.refl wr.heap.size wr).drew
      have HM3 := hide (hm3.later hb9)
      have HT3 := hide (ht3.trans (WrT.later hb9))
      have hnx := num_le q3 x
      have hc6 := str_code q3 x
      have hnx3 : q3.num x < 2147483648 := by omega
      have hl6 : q3.strs.length ≤ 1048576 := by omega
      have hl7 : (q3.str x).code.length ≤ 1073741824 := by rw [hc6]; omega
      unfold strV at cn
      have C6 := hide (wrString_any B wb nb q3 vs3 vc3 x wr.drew (unhide HM3) hB3 hl6)
      clear hm3 ht3 htk hrd hc6 hnx hl3 hb9
      go_wp2_with fail
      go_region_held3 (fun w' => w'.cell? ⟨xb, 0, none⟩ = some (.pointer (some ⟨wb, 0, none⟩))) (go_keep) (first
        | (go_at_call 101; refine (unhide C6).mono ?_; clear C6; rintro e w6 ⟨rfl, vs6, hm6, ht6⟩; have hB6 := Nat.le_trans hB3 ht6.tn.size; have C7 := hide (wrAdds hm6 hB6 hl7 7 7 rfl (by decide) [q3.num x] (by intro y hy; rw [List.mem_singleton] at hy; omega) (by simp) 1 rfl _ rfl #[.int .i64 (q3.num x)] rfl); have HT6 := hide ((unhide HT3).trans ht6); have cx6 := ((unhide HRX3).drew.wrt (unhide HM3) ht6 (by decide) (by decide) (by decide)).cell? (i := 0) rfl; clear hm6 ht6)
        | (go_at_call 100; refine (unhide C7).mono ?_; clear C7; rintro e w7 ⟨rfl, vc7, hm7, ht7⟩; have HX7 : Hid (WrX W B wb nb vs vc (giveStep q3 x) w7) := ⟨_, _, hm7, (unhide HT6).trans ht7⟩; have cx7 := ((unhide HRX).wrx (unhide H0) (unhide HX7) (by decide) (by decide) (by decide)).cell? (i := 0) rfl; clear hm7 ht7))
      all_goals go_wp2_with fail
      all_goals go_roundw
      case rel => exact ⟨k + 1, by go_num, by omega, by rw [unhide HTK]; exact HX7⟩
      case measure => simp only [intN]; omega
    · have hie : k = cmds.length := by omega
      subst hie
      have t1 : ¬ (cmds.length : Int) < cmds.length := by omega
      rw [List.take_length] at HX hl3
      have ci := ((unhide HRI).wrx (unhide H0) (unhide HX) (by decide) (by decide) (by decide)).cell? (i := 0) rfl
      obtain ⟨vs3, vc3, hm3, ht3⟩ := unhide HX
      have hB3 := Nat.le_trans hB ht3.tn.size
      have C7 := hide (wrAdds hm3 hB3 (by omega) 8 8 rfl (by decide) [i] (by intro y hy; rw [List.mem_singleton] at hy; omega) (by simp) 1 rfl _ rfl #[.int .i64 i] rfl)
      have HT3 := hide ht3
      clear hm3 ht3
      go_wp2_with (first
        | (go_at_call 100; refine (unhide C7).mono ?_; clear C7; rintro e w7 ⟨rfl, vc7, hm7, ht7⟩; have HX7 : Hid (WrX W B wb nb vs vc (blockW p cmds i) w7) := ⟨_, _, hm7, (unhide HT3).trans ht7⟩; clear hm7 ht7)
        | fail)
      go_end0
      exact ⟨rfl, unhide HX7⟩
end Go.Proofs.YtjelacjggijmfaaGreatDoor
namespace Go.Proofs.YtjelacjggijmfaaGreatDoor
open Go.RowKit Go.MapKept Go.ChangeMaps Go.Maps

theorem own_over {w : World} {B e n g cap off : Nat} {xs cs : List Value} {cur : Array Value} (h2 : B ≤ g) (h3 : w.heap[g]? = some (.cells cur e (0, 0))) (h4 : n ≤ cap) (h5 : cap ≤ maxLen) (h6 : cur.size = cap * 1) (h7 : cur.toList.take (n * 1) = xs) (hle : off + cs.length ≤ n) :
    (w.setRow g (cur.toList.take off ++ (cs ++ cur.toList.drop (off + cs.length))).toArray).ownsRow B e 1 (.slice (some ⟨g, 0, none⟩) n cap) n (xs.take off ++ (cs ++ xs.drop (off + cs.length))) := by
  rw [Nat.mul_one] at h6 h7
  have hcl : cur.toList.length = cap := by rw [Array.length_toList]; exact h6
  have hxl : xs.length = n := by rw [← h7, List.length_take]; omega
  refine ⟨by simp; omega, .inr ⟨g, cap, _, rfl, h2, setRow_heap w g _ _ e _ h3, h4, h5, by simp; omega, ?_⟩⟩
  subst h7
  rw [Nat.mul_one, List.take_append, List.take_append, List.take_take, List.take_take, List.length_take, Nat.min_eq_left (by omega : off ≤ cur.toList.length), Nat.min_comm n off, Nat.min_eq_left (by omega : off ≤ n)]
  rw [List.drop_take, List.take_of_length_le (l := cs) (by omega)]
  rw [show n - off - cs.length = n - (off + cs.length) by omega]
/-- copy over an own row. -/
theorem step_copy_over {P : Program} {ops : Array Oper} {o : Oper} {a : Act} {w : World} {K : Act → World → Prop} {Q : Exit → Act → World → Prop} {E : Prop} (hgd : o.guard = none) (d s : Operand) (dT sT : TypeId)
    (ho : o.op = .call { callee := .builtin .copy, args := #[d, s], argTypes := #[dT, sT] }) (elem : TypeId) (hu : P.underlying dT = some (.slice elem)) (hsz : (P.info? elem).map (·.size) = some 1)
    (B g cap n : Nat) (xs : List Value) (hown : w.ownsRow B elem 1 (.slice (some ⟨g, 0, none⟩) n cap) n xs) (off dLen dCap : Nat) (hd : a.eval d = .slice (some ⟨g, off, none⟩) dLen dCap) (ad : Addr) (sLen sCap : Nat) (hs : a.eval s = .slice (some ad) sLen sCap)
    (cs : List Value) (hn : cs.length = sLen) (hdl : sLen ≤ dLen) (hle : off + sLen ≤ n) (hsrc : ∀ j v, cs[j]? = some v → w.cell? (ad.add j) = some v) (h1 : ∀ v ∈ cs, v.oneCell' = true)
    (h : ∀ w', w'.ownsRow B elem 1 (.slice (some ⟨g, 0, none⟩) n cap) n (xs.take off ++ (cs ++ xs.drop (off + cs.length))) → Tn (fun k => k = g) w w' → K (a.put o.dst (goInt cs.length)) w') :
    if Region.wanted o (yielded ops a.tmps) = true then Oper.wp P o a w K Q else E := by
  have hw : Region.wanted o (yielded ops a.tmps) = true := by simp [Region.wanted, hgd]
  rw [if_pos hw]
  rcases hown.2 with ⟨q1, _⟩ | ⟨g', cap', cur, q1, h2, h3, h4, h5, h6, h7⟩
  · cases q1
  · cases q1
    subst hn
    have hrun := run_copy_row (P := P) w dT sT o.type elem g off dLen dCap ad cs.length sCap cur elem cs hu hsz h3 (Nat.min_eq_left hdl).symm hsrc (by omega) h1
    rw [List.append_assoc] at hrun
    unfold Oper.wp
    simp [execOp, ho, resolve, invoke, builtin, hd, hs, hrun, Result.andThen]
    refine h _ (own_over h2 h3 h4 h5 h6 h7 hle) ⟨rfl, rfl, rfl, by simp [World.setRow], fun k _ hk => setRow_other w g k _ hk⟩
end Go.Proofs.YtjelacjggijmfaaGreatDoor
