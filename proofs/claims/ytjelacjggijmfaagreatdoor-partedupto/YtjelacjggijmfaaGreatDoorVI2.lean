/-
  The reader: a text is read: the memory between two lines.
  Boxes of one cell, and what a round of the loop over the lines keeps.
  The iterator over the lines of a text that count for something: what it gives, round by round.
-/
import Derived.Test.YtjelacjggijmfaaGreatDoorVGD7
import Derived.Test.YtjelacjggijmfaaGreatDoorVGC3
import Derived.Test.YtjelacjggijmfaaGreatDoorVNX6
namespace Go.Proofs.YtjelacjggijmfaaGreatDoor
open Go.RowKit Go.Shelf
attribute [local go_sem] Oper.semAt_some

set_option maxHeartbeats 400000 in
theorem joined_any (s : ByteArray) (w : World) :
    Calls Tryz.prog 120 #[.string s] w fun e w' => e = .returned (.func (.func 156) #[] #[.pointer (some ⟨w.heap.size, 0, none⟩)]) ∧ w.alloc (.cells #[.string s] 9) = w' := by
  go_enter Tryz.func120, Tryz.ntmps120
  go_wp2
  go_ret
  exact ⟨rfl, rfl⟩
set_option maxHeartbeats 400000 in
theorem all_any (s : ByteArray) (w : World) :
    Calls Tryz.prog 74 #[.string s] w fun e w' => e = .returned (.func (.func 119) #[] #[.pointer (some ⟨w.heap.size, 0, none⟩)]) ∧ w.alloc (.cells #[.string s] 9) = w' := by
  go_enter Tryz.func74, Tryz.ntmps74
  go_wp2
  go_ret
  exact ⟨rfl, rfl⟩

def encA (x : Mk.Ln × Nat) : Array Value := #[lnV x.1, .int .i64 x.2]
/-- What a round over the lines keeps: the one variable of the library's, the boxes that hold a yield, and whatever is no cells but for the loop's own record. -/
structure KpA (l : Nat) (W W' : World) : Prop where
  glob : Glob W → Glob W'
  boxes : ∀ (k : Nat) (c : Array Value) (f : Nat × Nat), W.heap[k]? = some (Obj.cells c 234 f) → W'.heap[k]? = some (Obj.cells c 234 f)
  others : ∀ (k : Nat) (o : Obj), l < k → W.heap[k]? = some o → o.isCells = false → W'.heap[k]? = some o
  size : W.heap.size ≤ W'.heap.size

theorem glob_putObj {W : World} {l : Nat} {o o' : Obj} (h : Glob W) (hl : W.heap[l]? = some o) (ho : o.isCells = false) : Glob (W.putObj l o') := by
  obtain ⟨m, hm⟩ := h
  exact ⟨m, cell_kept hm (grownBy_putObj' W l o') (fun r e => by cases e; exact ⟨o, hl, ho⟩)⟩
theorem glob_own (B : Nat) {β : Type} : OwnFrom B (fun (_ : β) W => Glob W) := fun _ X Y row hs hg hr => by
  obtain ⟨m, hm⟩ := hs
  exact ⟨m, cell_kept hm hg (fun r e => (hr r e).2)⟩
theorem rest_drop {α : Type} {L pre post : List α} {x : α} (h : L = pre ++ x :: post) : L.drop pre.length = x :: post ∧ L.drop (pre ++ [x]).length = post := by
  subst h
  refine ⟨List.drop_left, ?_⟩
  rw [show pre ++ x :: post = (pre ++ [x]) ++ post from by simp]
  exact List.drop_left
theorem box_own (B k : Nat) (c : Array Value) (t : TypeId) {β : Type} : OwnFrom B (fun (_ : β) W => W.heap[k]? = some (Obj.cells c t (0, 0))) := fun _ X Y row hs hg hr => by
  refine (hg.block k (Array.getElem?_eq_some_iff.1 hs).1 (fun e => ?_)).trans hs
  obtain ⟨_, o, ho, hc⟩ := hr k e.symm
  rw [hs] at ho; cases ho; cases hc
set_option maxHeartbeats 1000000 in
theorem all_iter (t : List UInt8) (Bt : Nat) (w : World) (hT : t.length ≤ 1073741824) (hg : Glob w) (hBt : w.cell? ⟨Bt, 0, none⟩ = some (.string ⟨t.toArray⟩)) :
    Mk.Iter Tryz.prog 119 #[.pointer (some ⟨Bt, 0, none⟩)] encA KpA (Mk.allF (Mk.joined t)) w := by
  intro l J Jx W hlW hW hJ hJx hY h0
  have hBt2 : W.cell? ⟨Bt, 0, none⟩ = some (.string ⟨t.toArray⟩) := (hW.cell (p := ⟨Bt, 0, none⟩) (World.block_lt_of_cell? w _ hBt)).trans hBt
  have hgW := hg.later hW
  have hlt := World.block_lt_of_cell? W _ hBt2
  refine callsIn_of_wp_marks Tryz.func119 rfl trivial ?_
  simp only [Tryz.ntmps119, List.size_toArray, List.length_cons, List.length_nil, Nat.reduceAdd, Nat.reduceSub, Array.replicate_succ, Array.replicate_zero, List.push_toArray, List.append_toArray, List.nil_append, List.cons_append]
  have hBt3 : ∀ o, (W.alloc o).cell? ⟨Bt, 0, none⟩ = some (.string ⟨t.toArray⟩) := fun o => (((Below.refl _ W).alloc (Nat.le_refl _) o).cell (p := ⟨Bt, 0, none⟩) hlt).trans hBt2
  gi_wp2_with fail
  refine ⟨trivial, (callsIn_wide.2 (joined_any _ _)).mono ?_⟩
  rintro e w2 ⟨rfl, rfl⟩
  gi_wp2_with fail
  clear hBt3
  obtain ⟨V, hV⟩ : ∃ V, V = ((W.alloc (.cells #[.func (.yield l) #[] #[]] 234)).alloc (.cells #[.string ⟨t.toArray⟩] 9)) := ⟨_, rfl⟩
  rw [← hV]
  have hVs : V.heap.size = W.heap.size + 2 := by rw [hV]; simp
  have hbV : Below W.heap.size W V := by rw [hV]; exact ((Below.refl _ W).alloc (Nat.le_refl _) _).alloc (by simp) _
  have hgV := hgW.later hbV
  have hbox : V.heap[W.heap.size]? = some (Obj.cells #[.func (.yield l) #[] #[]] 234 (0, 0)) := by
    rw [hV]; exact (Below.heap_alloc _ _ _ (by simp)).trans (World.alloc_heap_new W _)
  have htx : V.cell? ⟨W.heap.size + 1, 0, none⟩ = some (.string ⟨t.toArray⟩) := by
    have := World.alloc_heap_new (W.alloc (.cells #[.func (.yield l) #[] #[]] 234)) (.cells #[.string ⟨t.toArray⟩] 9)
    rw [World.size_alloc, ← hV] at this
    simp [World.cell?, this]
  have hJV := OwnBelow hJ h0 hbV
  clear hV
  have hJo := Mk.ownFrom_le hJ (show W.heap.size ≤ V.heap.size by omega)
  have hJxo := Mk.ownFrom_le hJx (show W.heap.size ≤ V.heap.size by omega)
  refine Mk.range_law (gf := 156) (lb := #[.pointer (some ⟨W.heap.size + 1, 0, none⟩)]) rfl (enters_of Tryz.func156 (by kernel_rfl) rfl)
    (joined_iter t (W.heap.size + 1) V hT hgV htx) (fun h k g => k (h g)) (fun W1 l1 o o' _ hl ho hg1 => glob_putObj hg1 hl ho) (Below.refl _ _) (fun _ => rfl)
    (fun pre W1 => ∃ ys, Mk.allF (Mk.joined t) = ys ++ Mk.allF ((Mk.joined t).drop pre.length) ∧ J ys W1 ∧ W1.heap[W.heap.size]? = some (Obj.cells #[.func (.yield l) #[] #[]] 234 (0, 0)) ∧ Glob W1)
    (fun c _ W1 => c = .ret ∧ (J (Mk.allF (Mk.joined t)) W1 ∨ ∃ pre' post', Mk.allF (Mk.joined t) = pre' ++ post' ∧ Jx pre' W1))
    (fun s X Y row hs hgr hr => by
      obtain ⟨ys, h1, h2, h3, h4⟩ := hs
      exact ⟨ys, h1, hJo _ X Y row h2 hgr hr, box_own V.heap.size _ _ _ () X Y row h3 hgr hr, glob_own V.heap.size () X Y row h4 hgr hr⟩)
    (fun c s X Y row hs hgr hr => by
      obtain ⟨h1, h2 | ⟨p1, p2, h2, h3⟩⟩ := hs
      · exact ⟨h1, .inl (hJo _ X Y row h2 hgr hr)⟩
      · exact ⟨h1, .inr ⟨p1, p2, h2, hJxo _ X Y row h3 hgr hr⟩⟩)
    ⟨[], rfl, hJV, hbox, hgV⟩
    (fun x a' _ => a' = { tmps := #[.func (.yield l) #[] #[], .pointer (some ⟨Bt, 0, none⟩), .pointer (some ⟨W.heap.size, 0, none⟩), .int .i64 x.1, .string ⟨x.2.toArray⟩, undef, undef, .string ⟨t.toArray⟩,
      .func (.func 156) #[] #[.pointer (some ⟨W.heap.size + 1, 0, none⟩)], .int .i64 x.1, .string ⟨x.2.toArray⟩, undef, undef, undef, undef, undef, undef, undef, undef, undef, undef, undef, undef, undef, undef, undef, undef, undef, undef, undef, undef, undef, undef, undef], defers := [] })
    (fun _ _ _ _ _ _ hs _ _ => hs) ?assign ?body ?done ?stop
  case assign =>
    rintro l1 pre ⟨n, whole⟩ post W1 K _ hi hK
    unfold encJ
    gi_wp2
    exact hK _ _ (KeepsFrom.refl _ _) (fun h => h) hi rfl
  case body =>
    rintro l1 pre ⟨n, whole⟩ post a' W1 hL ⟨ys, hys, hJ1, hbx, hg1⟩ rfl
    have hwl : whole.length ≤ 1073741824 := Nat.le_trans (Mk.joined_len (x := (n, whole)) (by rw [hL]; simp)) hT
    obtain ⟨hd1, hd2⟩ := rest_drop hL
    rw [hd1] at hys
    have hwA : (⟨whole.toArray⟩ : ByteArray).size = whole.length := size_mk _
    have HN := hide hd2
    clear hd1 hd2 hL
    gi_wp2_with fail
    refine ⟨trivial, (CallsIn.inRound l1 (callsIn_wide.2 (parse_any ⟨whole.toArray⟩ W1 (by omega) hg1))).mono ?_⟩
    rintro e W2 ⟨rfl, hb2⟩
    simp only
    have hys2 : Mk.allF (Mk.joined t) = ys ++ (if (Mk.parse whole).2 == 0 && (Mk.parse whole).1.kind == 0 then Mk.allF post
      else ({ (Mk.parse whole).1 with number := n }, (Mk.parse whole).2) :: (if (Mk.parse whole).2 == 0 then Mk.allF post else [])) := hys
    clear hys
    generalize Mk.parse whole = r at *
    obtain ⟨⟨nm, k, L, R⟩, er⟩ := r
    simp only at hys2
    unfold lineRes lnV
    simp only
    have hbs := hb2.size
    obtain ⟨W3, hW3⟩ : ∃ W3, W3 = W2.alloc (.cells #[.int .i64 n, .int .i64 k, .string ⟨L.toArray⟩, .string ⟨R.toArray⟩] 164) := ⟨_, rfl⟩
    have hb3 : Below W1.heap.size W1 W3 := by rw [hW3]; exact hb2.alloc hbs _
    have hk3 : KeepsFrom V.heap.size W1 W3 := keepsBelow _ hb3
    have hg3 := hg1.later hb3
    have hJ3 := OwnBelow hJ hJ1 hb3
    have hbx3 : W3.heap[W.heap.size]? = _ := (hb3.block _ (Array.getElem?_eq_some_iff.1 hbx).1).trans hbx
    have hbx2 : W2.heap[W.heap.size]? = _ := (hb2.block _ (Array.getElem?_eq_some_iff.1 hbx).1).trans hbx
    have hlt2 : W.heap.size < W2.heap.size := (Array.getElem?_eq_some_iff.1 hbx2).1
    have hcell : ∀ o, (W2.alloc o).cell? ⟨W.heap.size, 0, none⟩ = some (.func (.yield l) #[] #[]) := fun o => by
      have h5 : (W2.alloc o).heap[W.heap.size]? = _ := (Below.heap_alloc W2 o _ hlt2).trans hbx2
      simp [World.cell?, h5]
    by_cases her : er = 0
    · by_cases hk0 : k = 0
      · subst her hk0
        have HI2 : Hid (∃ ys, Mk.allF (Mk.joined t) = ys ++ Mk.allF ((Mk.joined t).drop (pre ++ [(n, whole)]).length) ∧ J ys (W2.alloc (.cells #[.int .i64 nm, .int .i64 0, .string ⟨L.toArray⟩, .string ⟨R.toArray⟩] 164)) ∧
            (W2.alloc (.cells #[.int .i64 nm, .int .i64 0, .string ⟨L.toArray⟩, .string ⟨R.toArray⟩] 164)).heap[W.heap.size]? = some (Obj.cells #[.func (.yield l) #[] #[]] 234 (0, 0)) ∧ Glob (W2.alloc (.cells #[.int .i64 nm, .int .i64 0, .string ⟨L.toArray⟩, .string ⟨R.toArray⟩] 164))) := by
          refine ⟨ys, ?_, OwnBelow hJ hJ1 (hb2.alloc hbs _), (Below.heap_alloc W2 _ _ hlt2).trans hbx2, hg1.later (hb2.alloc hbs _)⟩
          rw [unhide HN, hys2]; rfl
        clear hys2 hJ3 hg3 hW3 hJ1
        gi_wp2_with fail
        exact ⟨keepsBelow _ (hb2.alloc hbs _), fun h => h.later (hb2.alloc hbs _), unhide HI2⟩
      · have b1 : ((er : Int) == 0) = true := by rw [beq_iff_eq]; omega
        have b1' : ((er : Int) != 0) = false := by rw [bne_eq_false_iff_eq]; omega
        have b2 : ((k : Int) == 0) = false := by rw [beq_eq_false_iff_ne]; omega
        have hys3 : Mk.allF (Mk.joined t) = ys ++ (⟨n, k, L, R⟩, er) :: Mk.allF post := by
          have c1 : (er == 0) = true := by rw [beq_iff_eq]; exact her
          have c2 : (k == 0) = false := by rw [beq_eq_false_iff_ne]; exact hk0
          rw [hys2, c1, c2]; rfl
        subst hW3
        obtain ⟨fn, tmps, assign, body, hy, hR⟩ := hY ys (⟨n, k, L, R⟩, er) _ _ hys3 hJ3
        have HR := hide hR
        have HY3 := hide hys3
        have HG3 := hide hg3
        have HB3 := hide hbx3
        have HK3 := hide hk3
        have HBW := hide hb3
        unfold encA lnV at hy
        simp only at hy
        clear hys2 hJ3 hJ1 hR hys3 her hg3 hbx3 hk3 hb3 hk0
        gi_wp2_with fail
        refine (Mk.roundIn_in (unhide HR)).mono ?_
        rintro e W4 (⟨rfl, hJ4, hk4⟩ | ⟨rfl, hJ4, hk4⟩)
        · have HJ4 := hide hJ4
          have HK4 := hide hk4
          clear hJ4 hk4 hy HR
          gi_wp2_with fail
          exact ⟨(unhide HK3).trans ⟨(unhide HK4).size, fun k1 o h1 ho hc => (unhide HK4).others k1 o (by omega) ho hc⟩, fun _ => (unhide HK4).glob (unhide HG3), ys ++ [(⟨n, k, L, R⟩, er)], by rw [unhide HN, unhide HY3]; simp, unhide HJ4, (unhide HK4).boxes _ _ _ (unhide HB3), (unhide HK4).glob (unhide HG3)⟩
        · have HJ4 := hide hJ4
          have HK4 := hide hk4
          clear hJ4 hk4 hy HR
          gi_wp2_with fail
          exact ⟨(unhide HK3).trans ⟨(unhide HK4).size, fun k1 o h1 ho hc => (unhide HK4).others k1 o (by omega) ho hc⟩, fun _ => (unhide HK4).glob (unhide HG3), rfl, .inr ⟨ys ++ [(⟨n, k, L, R⟩, er)], _, by rw [unhide HY3]; simp; rfl, unhide HJ4⟩⟩
    · have b1 : ((er : Int) == 0) = false := by rw [beq_eq_false_iff_ne]; omega
      have b1' : ((er : Int) != 0) = true := by rw [bne_iff_ne]; omega
      have hys3 : Mk.allF (Mk.joined t) = ys ++ (⟨n, k, L, R⟩, er) :: [] := by
        have c1 : (er == 0) = false := by rw [beq_eq_false_iff_ne]; exact her
        rw [hys2, c1]; rfl
      subst hW3
      obtain ⟨fn, tmps, assign, body, hy, hR⟩ := hY ys (⟨n, k, L, R⟩, er) _ _ hys3 hJ3
      have HR := hide hR
      have HY3 := hide hys3
      have HG3 := hide hg3
      have HB3 := hide hbx3
      have HK3 := hide hk3
      have HBW := hide hb3
      unfold encA lnV at hy
      simp only at hy
      clear hys2 hJ3 hJ1 hR hys3 her hg3 hbx3 hk3 hb3
      gi_wp2_with fail
      refine (Mk.roundIn_in (unhide HR)).mono ?_
      rintro e W4 (⟨rfl, hJ4, hk4⟩ | ⟨rfl, hJ4, hk4⟩)
      · have HJ4 := hide hJ4
        have HK4 := hide hk4
        clear hJ4 hk4 hy HR
        gi_wp2_with fail
        exact ⟨(unhide HK3).trans ⟨(unhide HK4).size, fun k1 o h1 ho hc => (unhide HK4).others k1 o (by omega) ho hc⟩, fun _ => (unhide HK4).glob (unhide HG3), rfl, .inl (by rw [unhide HY3]; exact unhide HJ4)⟩
      · have HJ4 := hide hJ4
        have HK4 := hide hk4
        clear hJ4 hk4 hy HR
        gi_wp2_with fail
        exact ⟨(unhide HK3).trans ⟨(unhide HK4).size, fun k1 o h1 ho hc => (unhide HK4).others k1 o (by omega) ho hc⟩, fun _ => (unhide HK4).glob (unhide HG3), rfl, .inr ⟨ys ++ [(⟨n, k, L, R⟩, er)], _, by rw [unhide HY3]; simp; rfl, unhide HJ4⟩⟩
  case done =>
    rintro D W1 hD ⟨ys, hys, hJ1, hbx, hg1⟩ hK
    have HY : Hid (J (Mk.allF (Mk.joined t)) (W1.putObj D (.deferred none))) := by
      have h9 : Mk.allF (Mk.joined t) = ys := by rw [hys]; simp [Mk.allF]
      show J _ _
      rw [h9]; exact hJ.putObj _ hJ1 (by omega) hK rfl
    clear hys hJ1 hbx hg1
    gi_wp2
    refine ⟨by simp, .inl ⟨_, _, rfl, run_takeDeferred hK, ?_⟩⟩
    exact ⟨_, results_none rfl _ _ _, ⟨_, rfl⟩, .inl (unhide HY)⟩
  case stop =>
    rintro D c pre post W1 hD hL ⟨rfl, hx⟩ hK
    have HY : Hid (J (Mk.allF (Mk.joined t)) (W1.putObj D (.deferred none)) ∨ ∃ pre' post', Mk.allF (Mk.joined t) = pre' ++ post' ∧ Jx pre' (W1.putObj D (.deferred none))) := by
      rcases hx with hx | ⟨p1, p2, h1, h2⟩
      · exact .inl (hJ.putObj _ hx (by omega) hK rfl)
      · exact .inr ⟨p1, p2, h1, hJx.putObj _ h2 (by omega) hK rfl⟩
    clear hx hL
    gi_wp2
    refine ⟨by simp, .inl ⟨_, _, rfl, run_takeDeferred hK, ?_⟩⟩
    exact ⟨_, results_none rfl _ _ _, ⟨_, rfl⟩, unhide HY⟩
end Go.Proofs.YtjelacjggijmfaaGreatDoor
namespace Go.Proofs.YtjelacjggijmfaaGreatDoor
open Go.RowKit Go.Shelf

def Box1 (w : World) (b : Nat) (t : TypeId) (v : Value) : Prop := w.heap[b]? = some (.cells #[v] t (0, 0))
theorem Box1.lt {w : World} {b : Nat} {t : TypeId} {v : Value} (h : Box1 w b t v) : b < w.heap.size := (Array.getElem?_eq_some_iff.1 h).1
theorem Box1.later {w w' : World} {b : Nat} {t : TypeId} {v : Value} (h : Box1 w b t v) (hb : Below w.heap.size w w') : Box1 w' b t v := (hb.block b h.lt).trans h
theorem Box1.below {w w' : World} {b n : Nat} {t : TypeId} {v : Value} (h : Box1 w b t v) (hb : Below n w w') (hn : b < n) : Box1 w' b t v := (hb.block b hn).trans h
theorem Box1.cell {w : World} {b : Nat} {t : TypeId} {v : Value} (h : Box1 w b t v) : w.cell? ⟨b, 0, none⟩ = some v := by unfold Box1 at h; simp [World.cell?, h]
theorem Box1.frozen {w : World} {b : Nat} {t : TypeId} {v : Value} (h : Box1 w b t v) : w.frozen? ⟨b, 0, none⟩ = false := by unfold Box1 at h; simp [World.frozen?, h]
theorem Box1.set {w : World} {b : Nat} {t : TypeId} {v : Value} (h : Box1 w b t v) (u : Value) : Box1 (w.setCell ⟨b, 0, none⟩ u) b t u := by
  unfold Box1 at *
  simp [World.setCell, Array.getElem?_modify, h]
theorem Box1.other {w : World} {b c : Nat} {t : TypeId} {v : Value} (h : Box1 w b t v) (hne : b ≠ c) (o : Nat) (u : Value) : Box1 (w.setCell ⟨c, o, none⟩ u) b t v :=
  (Below.heap_setCell w ⟨c, o, none⟩ u b hne).trans h
theorem Box1.drew {w : World} {b : Nat} {t : TypeId} {v : Value} (h : Box1 w b t v) : Box1 w.drew b t v := h
theorem Box1.others {w w' : World} {b c : Nat} {t : TypeId} {v : Value} (h : Box1 w b t v) (hk : Lib.OthersKept 5 (some c) w w') (hne : b ≠ c) (ht : t ≠ 5) : Box1 w' b t v :=
  hk b _ h (by simpa using hne) (by intro c' fz e; cases e; exact ht rfl)
theorem Box1.own (B b : Nat) (t : TypeId) (v : Value) {β : Type} : OwnFrom B (fun (_ : β) W => Box1 W b t v) := box_own B b #[v] t
theorem Box4.own (B b : Nat) (t : TypeId) (a0 a1 a2 a3 : Value) {β : Type} : OwnFrom B (fun (_ : β) W => Box4 W b t a0 a1 a2 a3) := box_own B b #[a0, a1, a2, a3] t
theorem Bld.drew {B b : Nat} {acc : List UInt8} {w : World} (h : Bld B b acc w) : Bld B b acc w.drew := h
theorem Bld.setOther {B b c : Nat} {t : TypeId} {v : Value} {acc : List UInt8} {w : World} (h : Bld B b acc w) (hc : Box1 w c t v) (h1 : t ≠ 5) (o : Nat) (u : Value) : Bld B b acc (w.setCell ⟨c, o, none⟩ u) := by
  unfold Box1 at hc
  have aux : ∀ p, Lib.BuilderAtF 158 5 B b p (Lib.byteCells acc) w → Lib.BuilderAtF 158 5 B b p (Lib.byteCells acc) (w.setCell ⟨c, o, none⟩ u) := by
    rintro p ⟨hB, x, hb, ⟨hl, hr⟩, hne⟩
    refine ⟨hB, x, (Below.heap_setCell w ⟨c, o, none⟩ u b (fun e => ?_)).trans hb, ⟨hl, ?_⟩, hne⟩
    · subst e; rw [hb] at hc; cases hc
    · rcases hr with hr | ⟨g, cap, cur, fz, hv, hBg, hg, rest⟩
      · exact .inl hr
      · refine .inr ⟨g, cap, cur, fz, hv, hBg, (Below.heap_setCell w ⟨c, o, none⟩ u g (fun e => ?_)).trans hg, rest⟩
        subst e; rw [hg] at hc; cases hc; exact h1 rfl
  rcases h with h | h
  · exact .inl (aux _ h)
  · exact .inr (aux _ h)
theorem Bld.own (C B b : Nat) (acc : List UInt8) {β : Type} : OwnFrom C (fun (_ : β) W => Bld B b acc W) := fun _ X Y row hs hg hr =>
  Bld.kept hs (fun k c t f hk => (hg.block k (Array.getElem?_eq_some_iff.1 hk).1 (fun e => by
    obtain ⟨_, o, ho, hc⟩ := hr k e.symm
    rw [hk] at ho; cases ho; cases hc)).trans hk)
theorem Bld.blk {B b : Nat} {acc : List UInt8} {w : World} (h : Bld B b acc w) : ∃ c, w.heap[b]? = some (.cells c 158 (0, 0)) := by
  rcases h with ⟨_, v, hb, _⟩ | ⟨_, v, hb, _⟩
  · exact ⟨_, hb⟩
  · exact ⟨_, hb⟩

theorem KpA.trans {l : Nat} {X Y Z : World} (h : KpA l X Y) (k : KpA l Y Z) : KpA l X Z :=
  ⟨fun g => k.glob (h.glob g), fun i c f hi => k.boxes i c f (h.boxes i c f hi), fun i o hl hi ho => k.others i o hl (h.others i o hl hi ho) ho, Nat.le_trans h.size k.size⟩
theorem KpA.refl (l : Nat) (X : World) : KpA l X X := ⟨fun g => g, fun _ _ _ h => h, fun _ _ _ h _ => h, Nat.le_refl _⟩
theorem KpA.putObj (W : World) (l : Nat) (o o' : Obj) (hl : W.heap[l]? = some o) (ho : o.isCells = false) : KpA l W (W.putObj l o') :=
  ⟨fun g => glob_putObj g hl ho, fun k c f hk => (World.putObj_heap_other (fun e => by subst e; rw [hl] at hk; cases hk; cases ho)).trans hk,
    fun k _ hne hk _ => (World.putObj_heap_other (Nat.ne_of_gt hne)).trans hk, by simp⟩
theorem KpA.below {l : Nat} {W W' : World} (hb : Below W.heap.size W W') : KpA l W W' :=
  ⟨fun g => g.later hb, fun k _ _ hk => (hb.block k (Array.getElem?_eq_some_iff.1 hk).1).trans hk, fun k _ _ hk _ => (hb.block k (Array.getElem?_eq_some_iff.1 hk).1).trans hk, hb.size⟩
theorem KpA.setCell {l : Nat} {W : World} {b : Nat} {t : TypeId} {v : Value} (h : Box1 W b t v) (ht : t ≠ 234) (hb : 0 < b) (u : Value) : KpA l W (W.setCell ⟨b, 0, none⟩ u) := by
  unfold Box1 at h
  refine ⟨fun g => ?_, fun k c f hk => (Below.heap_setCell W ⟨b, 0, none⟩ u k (fun e => ?_)).trans hk, fun k o _ hk ho => (Below.heap_setCell W ⟨b, 0, none⟩ u k (fun e => ?_)).trans hk, by simp [World.setCell]⟩
  · obtain ⟨m, hm⟩ := g
    exact ⟨m, (((Below.refl b W).setCell (p := ⟨b, 0, none⟩) (Nat.le_refl _) u).cell (p := ⟨0, 0, none⟩) hb).trans hm⟩
  · simp only at e; subst e; rw [hk] at h; cases h; exact ht rfl
  · simp only at e; subst e; rw [hk] at h; cases h; cases ho
theorem KpA.bld {l : Nat} {W W' : World} {B b : Nat} {acc : List UInt8} (h : Bld B b acc W) (hb : Below B W W') (hk : Lib.OthersKept 5 (some b) W W') (hB : 0 < B) : KpA l W W' := by
  obtain ⟨c0, h0⟩ := h.blk
  refine ⟨fun g => ?_, fun k c f hi => hk k _ hi (fun e => ?_) (by intro c' fz e; cases e), fun k o _ hi ho => hk k _ hi (fun e => ?_) (by intro c' fz e; subst e; cases ho), hb.size⟩
  · obtain ⟨m, hm⟩ := g
    exact ⟨m, (hb.cell (p := ⟨0, 0, none⟩) hB).trans hm⟩
  · cases e; rw [h0] at hi; cases hi
  · cases e; rw [h0] at hi; cases hi; cases ho
theorem KpA.keeps {l B : Nat} {W W' : World} (h : KpA l W W') (hl : l < B) : KeepsFrom B W W' := ⟨h.size, fun k o hk ho hc => h.others k o (by omega) ho hc⟩
end Go.Proofs.YtjelacjggijmfaaGreatDoor
namespace Go.Proofs.YtjelacjggijmfaaGreatDoor
open Go.RowKit Go.MapKept Go.ChangeMaps Go.Maps

section
variable {w W X Y : World} {F G G' : Foot} {c : Ad} {rb rb' : Nat → Nat} {s s' : St} {v3 : Value} {er num : Nat}
theorem RdM.keep (h : RdM X F c rb s) (hsz : X.heap.size ≤ Y.heap.size) (hs : ∀ k t, F k = some t → Y.heap[k]? = X.heap[k]?) (hst : ∀ (k : Nat) (cs : Array Value) (fz : Nat × Nat), X.heap[k]? = some (Obj.cells cs 9 fz) → Y.heap[k]? = X.heap[k]?) : RdM Y F c rb s := by
  have hP : ∀ {t v xs}, PRow X F t v rb xs → PRow Y F t v rb xs := fun h => h.same (fun k e => ⟨hs k _ e, e⟩)
  have hC : ∀ {t v xs}, CRow X F t v xs → CRow Y F t v xs := fun h => h.same (fun k e => ⟨hs k _ e, e⟩)
  have hS : ∀ {v ws}, SlF X F v ws → SlF Y F v ws := fun h => by
    rcases h with h | ⟨b, o, c, h1, h2, h3, h4, ⟨cs, fz, h5⟩, h6⟩
    · exact .inl h
    · have q := hst b cs fz h5
      refine .inr ⟨b, o, c, h1, by omega, h3, fun j x hj => ?_, ⟨cs, fz, q.trans h5⟩, h6⟩
      have := h4 j x hj
      unfold World.cell? at *
      rw [q]
      exact this
  obtain ⟨vp, b1, b2⟩ := h.book
  obtain ⟨l, t1, t2, t3⟩ := h.tgts
  refine ⟨fun k t e => ?_, h.frd, h.fbb, h.fnm, h.fbt, h.fpb, h.frb, (hs _ _ h.frd).trans h.row, ⟨vp, (hs _ _ h.fbb).trans b1, hP b2⟩, h.names.of_block (hs _ _ h.fnm), h.phony.of_block (hs _ _ h.fpb), ⟨l, t1.of_block (hs _ _ h.fbt), t2, fun name => hP (t3 name)⟩, fun i r hr => ?_, h.pl, h.ol⟩
  · rw [hs k t e]; exact h.ty k t e
  · obtain ⟨vt, vn, vc, q1, q2, q3, q4⟩ := h.rules i r hr
    exact ⟨vt, vn, vc, (hs _ _ (h.frb i (List.getElem?_eq_some_iff.1 hr).1)).trans q1, hS q2, hS q3, hC q4⟩
theorem RdM.map (h : RdM X F c rb s) : (∃ es clock, X.heap[c.nm]? = some (.map es clock)) ∧ (∃ es clock, X.heap[c.bt]? = some (.map es clock)) ∧ (∃ es clock, X.heap[c.pb]? = some (.map es clock)) := by
  obtain ⟨e1, k1, h1, -⟩ := h.names
  obtain ⟨l, ⟨e2, k2, h2, -⟩, -⟩ := h.tgts
  obtain ⟨e3, k3, h3, -⟩ := h.phony
  exact ⟨⟨e1, k1, h1⟩, ⟨e2, k2, h2⟩, ⟨e3, k3, h3⟩⟩
/-- Cells of another type belong to no one. -/
theorem RdM.alien (h : RdM X F c rb s) {k : Nat} {cs : Array Value} {e : TypeId} {fz : Nat × Nat} (hk : X.heap[k]? = some (Obj.cells cs e fz)) (he : ¬ TyR e) : F k = none := by
  cases hf : F k with
  | none => rfl
  | some t =>
    obtain ⟨⟨e1, k1, h1⟩, ⟨e2, k2, h2⟩, ⟨e3, k3, h3⟩⟩ := h.map
    rcases h.ty k t hf with q | q | q | ⟨cs', e', fz', q1, q2⟩
    · rw [q, h1] at hk; cases hk
    · rw [q, h2] at hk; cases hk
    · rw [q, h3] at hk; cases hk
    · rw [q1] at hk; cases hk; exact absurd q2 he
/-- What is no cells belongs to no one, but for the maps. -/
theorem RdM.rest (h : RdM X F c rb s) {k : Nat} {o : Obj} (hk : X.heap[k]? = some o) (ho : o.isCells = false) (h1 : k ≠ c.nm) (h2 : k ≠ c.bt) (h3 : k ≠ c.pb) : F k = none := by
  cases hf : F k with
  | none => rfl
  | some t =>
    rcases h.ty k t hf with q | q | q | ⟨cs', e', fz', q1, q2⟩
    · exact absurd q h1
    · exact absurd q h2
    · exact absurd q h3
    · rw [q1] at hk; cases hk; cases ho
theorem RdM.keeps (h : RdM X F c rb s) (f : Fr F G X Y) {B : Nat} (h1 : c.nm < B) (h2 : c.bt < B) (h3 : c.pb < B) : KeepsFrom B X Y :=
  ⟨f.tn.size, fun k o hk ho hc => (f.tn.block k (Array.getElem?_eq_some_iff.1 ho).1 (fun e => e (h.rest ho hc (by omega) (by omega) (by omega)))).trans ho⟩
theorem RdM.kpa (h : RdM X F c rb s) (f : Fr F G X Y) (hg : Glob X → Glob Y) {l : Nat} (h1 : c.nm ≤ l) (h2 : c.bt ≤ l) (h3 : c.pb ≤ l) : KpA l X Y :=
  ⟨hg, fun k cs fz hk => (f.tn.block k (Array.getElem?_eq_some_iff.1 hk).1 (fun e => e (h.alien hk (by unfold TyR; decide)))).trans hk, fun k o hk ho hc => (f.tn.block k (Array.getElem?_eq_some_iff.1 ho).1 (fun e => e (h.rest ho hc (by omega) (by omega) (by omega)))).trans ho, f.tn.size⟩
theorem keepsSet {b o B : Nat} {t : TypeId} {vs : List Value} (h : Row X b t vs) (u : Value) : KeepsFrom B X (X.setCell ⟨b, o, none⟩ u) := by
  refine ⟨by simp [World.setCell], fun k ob _ ho hc => (Below.heap_setCell X ⟨b, o, none⟩ u k (fun e => ?_)).trans ho⟩
  unfold Row at h
  simp only at e
  rw [e, h] at ho
  cases ho
  cases hc
structure ReM (w : World) (F : Foot) (c : Ad) (G : Foot) (rb : Nat → Nat) (s : St) (v3 : Value) (er num : Nat) (W : World) : Prop where
  mem : RdM W G c rb s
  fr : Fr F G w W
  r0 : Row W w.heap.size 264 [.pointer (some ⟨c.rd, 0, none⟩)]
  r1 : Row W (w.heap.size + 1) 24 [.int .i64 (er : Int)]
  r2 : Row W (w.heap.size + 2) 3 [.int .i64 (num : Int)]
  r3 : Row W (w.heap.size + 3) 265 [v3]
  g0 : G w.heap.size = none
  g1 : G (w.heap.size + 1) = none
  g2 : G (w.heap.size + 2) = none
  g3 : G (w.heap.size + 3) = none
theorem ReM.step (h : ReM w F c G rb s v3 er num X) (m : RdM Y G' c rb' s') (f : Fr G G' X Y) : ReM w F c G' rb' s' v3 er num Y :=
  ⟨m, h.fr.trans f, h.r0.tn f.tn (fun e => e h.g0), h.r1.tn f.tn (fun e => e h.g1), h.r2.tn f.tn (fun e => e h.g2), h.r3.tn f.tn (fun e => e h.g3), f.old _ h.r0.lt h.g0, f.old _ h.r1.lt h.g1, f.old _ h.r2.lt h.g2, f.old _ h.r3.lt h.g3⟩
theorem ReM.later (h : ReM w F c G rb s v3 er num X) (hb : Below X.heap.size X Y) : ReM w F c G rb s v3 er num Y := h.step (h.mem.later hb) (Fr.later hb)
theorem fr_set {n b : Nat} (h : Fr F G w X) (hn : w.heap.size = n) (hb : n ≤ b) (o : Nat) (u : Value) : Fr F G w (X.setCell ⟨b, o, none⟩ u) :=
  ⟨⟨h.tn.os, h.tn.tape, h.tn.output, by have := h.tn.size; simpa [World.setCell] using this, fun k hk hp => (Below.heap_setCell X ⟨b, o, none⟩ u k (by simp only; omega)).trans (h.tn.block k hk hp)⟩, h.old⟩
/-- A cell that belongs to no one, of another type than strings, is set. -/
theorem RdM.away (h : RdM X F c rb s) {b o : Nat} {t : TypeId} {vs : List Value} (hr : Row X b t vs) (ht : t ≠ 9) (hF : F b = none) (u : Value) : RdM (X.setCell ⟨b, o, none⟩ u) F c rb s := by
  refine h.keep (by simp [World.setCell]) (fun k tt e => Below.heap_setCell X ⟨b, o, none⟩ u k (fun q => ?_)) (fun k cs fz e => Below.heap_setCell X ⟨b, o, none⟩ u k (fun q => ?_))
  · simp only at q; rw [q, hF] at e; cases e
  · simp only at q
    unfold Row at hr
    rw [q, hr] at e
    cases e
    exact ht rfl
theorem ReM.open (h : ReM w F c G rb s v3 er num X) (u : Value) : ReM w F c G rb s u er num (X.setCell ⟨w.heap.size + 3, 0, none⟩ u) :=
  ⟨h.mem.away h.r3 (by decide) h.g3 u, fr_set h.fr rfl (by omega) _ _, h.r0.other (by omega) _ _, h.r1.other (by omega) _ _, h.r2.other (by omega) _ _, h.r3.set 0 u, h.g0, h.g1, h.g2, h.g3⟩
theorem ReM.leave (h : ReM w F c G rb s v3 er num X) (e2 n2 : Nat) : ReM w F c G rb s v3 e2 n2 ((X.setCell ⟨w.heap.size + 1, 0, none⟩ (.int .i64 (e2 : Int))).setCell ⟨w.heap.size + 2, 0, none⟩ (.int .i64 (n2 : Int))) := by
  have a1 : ReM w F c G rb s v3 e2 num (X.setCell ⟨w.heap.size + 1, 0, none⟩ (.int .i64 (e2 : Int))) := ⟨h.mem.away h.r1 (by decide) h.g1 _, fr_set h.fr rfl (by omega) _ _, h.r0.other (by omega) _ _, h.r1.set 0 _, h.r2.other (by omega) _ _, h.r3.other (by omega) _ _, h.g0, h.g1, h.g2, h.g3⟩
  exact ⟨a1.mem.away a1.r2 (by decide) a1.g2 _, fr_set a1.fr rfl (by omega) _ _, a1.r0.other (by omega) _ _, a1.r1.other (by omega) _ _, a1.r2.set 0 _, a1.r3.other (by omega) _ _, a1.g0, a1.g1, a1.g2, a1.g3⟩
theorem ReM.own {β : Type} {B : Nat} (hB : w.heap.size ≤ B) (h1 : c.nm < B) (h2 : c.bt < B) (h3 : c.pb < B) : OwnFrom B (fun (_ : β) W => ReM w F c G rb s v3 er num W) := fun _ X Y row h hg hr => by
  have hcl : ∀ (k : Nat) (cs : Array Value) (e : TypeId) (fz : Nat × Nat), X.heap[k]? = some (Obj.cells cs e fz) → Y.heap[k]? = X.heap[k]? := fun k cs e fz hk => hg.block k (Array.getElem?_eq_some_iff.1 hk).1 (fun q => by
    obtain ⟨_, o, ho, hc⟩ := hr k q.symm
    rw [hk] at ho; cases ho; cases hc)
  have hlow : ∀ k, k < B → k < X.heap.size → Y.heap[k]? = X.heap[k]? := fun k hk hx => hg.block k hx (fun q => by have := (hr k q.symm).1; omega)
  refine ⟨h.mem.keep hg.size (fun k t e => ?_) (fun k cs fz e => hcl k cs _ fz e), ⟨⟨hg.os.trans h.fr.tn.os, hg.tape.trans h.fr.tn.tape, hg.output.trans h.fr.tn.output, Nat.le_trans h.fr.tn.size hg.size, fun k hk hp => (hlow k (by omega) (Nat.lt_of_lt_of_le hk h.fr.tn.size)).trans (h.fr.tn.block k hk hp)⟩, h.fr.old⟩, (hcl _ _ _ _ h.r0).trans h.r0, (hcl _ _ _ _ h.r1).trans h.r1, (hcl _ _ _ _ h.r2).trans h.r2, (hcl _ _ _ _ h.r3).trans h.r3, h.g0, h.g1, h.g2, h.g3⟩
  rcases h.mem.ty k t e with q | q | q | ⟨cs, e', fz, q1, -⟩
  · exact hlow k (by omega) (h.mem.lt e)
  · exact hlow k (by omega) (h.mem.lt e)
  · exact hlow k (by omega) (h.mem.lt e)
  · exact hcl k cs e' fz q1
def readW (rd : Nat) (t : Pl.Bs) (w : World) : World := ((((w.alloc (.cells #[.pointer (some ⟨rd, 0, none⟩)] 264)).alloc (.cells #[.int .i64 0] 24)).alloc (.cells #[.int .i64 0] 3)).alloc (.cells #[.pointer none] 265)).alloc (.cells #[.string ⟨t.toArray⟩] 9)
theorem readStart (t : Pl.Bs) (h : RdM w F c rb s) : ReM w F c F rb s (.pointer none) 0 0 (readW c.rd t w) ∧ Row (readW c.rd t w) (w.heap.size + 4) 9 [.string ⟨t.toArray⟩] ∧ (readW c.rd t w).heap.size = w.heap.size + 5 ∧ Below w.heap.size w (readW c.rd t w) := by
  have hs : (readW c.rd t w).heap.size = w.heap.size + 5 := by simp [readW]
  have hb : Below w.heap.size w (readW c.rd t w) := ((((((Below.refl _ w).alloc (Nat.le_refl _) _).alloc (by simp only [World.size_alloc]; omega) _).alloc (by simp only [World.size_alloc]; omega) _).alloc (by simp only [World.size_alloc]; omega) _).alloc (by simp only [World.size_alloc]; omega) _)
  have hbx : ∀ k : Nat, (readW c.rd t w).heap[k]? = (((((w.heap.push (.cells #[.pointer (some ⟨c.rd, 0, none⟩)] 264)).push (.cells #[.int .i64 0] 24)).push (.cells #[.int .i64 0] 3)).push (.cells #[.pointer none] 265)).push (.cells #[.string ⟨t.toArray⟩] 9))[k]? := fun _ => rfl
  refine ⟨⟨h.later hb, Fr.later hb, ?_, ?_, ?_, ?_, h.out (Nat.le_refl _), h.out (by omega), h.out (by omega), h.out (by omega)⟩, ?_, hs, hb⟩
  all_goals (unfold Row; rw [hbx]; simp only [Array.getElem?_push, Array.size_push]; repeat (first | rw [if_pos trivial] | rw [if_pos (by omega)] | rw [if_neg (by omega)]))
  all_goals rfl
end
end Go.Proofs.YtjelacjggijmfaaGreatDoor
