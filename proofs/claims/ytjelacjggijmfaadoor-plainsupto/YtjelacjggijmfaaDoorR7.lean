/-
  The document's own answer: memory that its Lines makes: the bytes of a line, the lines that have come.
-/
import Derived.Test.YtjelacjggijmfaaDoorR3
import Derived.Test.YtjelacjggijmfaaDoorR5
import Derived.Test.YtjelacjggijmfaaDoorPureQ
import Derived.Lib.BufferRead
namespace Go.Proofs.YtjelacjggijmfaaDoor
open Go.RowKit

def byV (c : UInt8) : Value := .int .u8 c.toNat
theorem Tryd.infoU8 : (Tryd.prog.info? 5).map (fun i => (i.zero, i.size, i.bytes)) = some (some (.int .u8 0), 1, 1) := by kernel_rfl
theorem Tryd.infoRLine : (Tryd.prog.info? 32).map (fun i => (i.zero, i.size, i.bytes)) = some (some (.agg #[.int .i64 0, .int .u8 0, .string ⟨#[]⟩, .string ⟨#[]⟩]), 4, 48) := by kernel_rfl

/-- The bytes that have been put together: whose they are. -/
def Bytes (w : World) (B : Nat) (v : Value) (bs : Mk.Bs) : Prop := w.ownsRow B 5 1 v bs.length (bs.map byV)
theorem Bytes.nil (w : World) (B : Nat) : Bytes w B (.slice none 0 0) [] := World.ownsRow_nil _ _ _ _
theorem Bytes.shape {w : World} {B : Nat} {v : Value} {bs : Mk.Bs} (h : Bytes w B v bs) :
    (v = .slice none 0 0 ∧ bs = []) ∨ ∃ g cap, v = .slice (some ⟨g, 0, none⟩) bs.length cap ∧ bs.length ≤ cap ∧ cap ≤ maxLen := by
  rcases h.2 with ⟨h1, h2⟩ | ⟨g, cap, cur, h1, h2, h3, h4, h5, h6, h7⟩
  · exact .inl ⟨h1, List.length_eq_zero_iff.1 h2⟩
  · exact .inr ⟨g, cap, h1, h4, h5⟩
theorem Bytes.cell {w : World} {B g cap : Nat} {bs : Mk.Bs} (h : Bytes w B (.slice (some ⟨g, 0, none⟩) bs.length cap) bs) (j : Nat) (hj : j < bs.length) :
    w.cell? ⟨g, j, none⟩ = some (.int .u8 (bs[j].toNat : Int)) := by
  rw [World.ownsRow.cellAt h j (by omega)]
  simp [hj, byV]
theorem Bytes.drop {w : World} {B g cap : Nat} {bs : Mk.Bs} (h : Bytes w B (.slice (some ⟨g, 0, none⟩) bs.length cap) bs) (h0 : 0 < bs.length) :
    Bytes w B (.slice (some ⟨g, 0, none⟩) (bs.length - 1) cap) bs.dropLast := by
  rcases h.2 with ⟨h1, h2⟩ | ⟨g', cap', cur, h1, h2, h3, h4, h5, h6, h7⟩
  · omega
  · simp only [Value.slice.injEq, Option.some.injEq, Addr.mk.injEq, and_true, true_and] at h1
    obtain ⟨rfl, rfl⟩ := h1
    refine ⟨by simp, .inr ⟨g, cap, cur, by simp, h2, h3, by simp; omega, h5, h6, ?_⟩⟩
    rw [List.length_dropLast, List.map_dropLast, List.dropLast_eq_take, List.length_map, ← h7, List.take_take]
    congr 1; omega
theorem Bytes.conv {w : World} {B : Nat} {v : Value} {bs : Mk.Bs} (h : Bytes w B v bs) : (convert 38 9 v).run Tryd.prog w = .ok (.string ⟨bs.toArray⟩) w := by
  rcases h.shape with ⟨rfl, rfl⟩ | ⟨g, cap, rfl, h1, h2⟩
  · exact Lib.run_convert_nil_bytes w _ _ 5 0 Tryd.underlying38 Tryd.underlying5 Tryd.underlying9
  · refine run_convert_bytes_back w _ _ 5 _ cap bs Tryd.underlying38 Tryd.underlying5 Tryd.underlying9 ?_
    intro j hj
    have := h.cell j hj
    by_cases hj0 : j = 0
    · subst hj0; simpa [Addr.add] using this
    · simpa [Addr.add, hj0] using this

/-- One line that has come, as its four cells. -/
def Row4 (x : Nat × Mk.Bs) (c : List Value) : Prop :=
  ∃ L R : ByteArray, c = [.int .i64 x.1, .int .u8 (Mk.rk (Mk.parse x.2)), .string L, .string R] ∧ (Mk.rk (Mk.parse x.2) ≠ 120 → L = ⟨(Mk.parse x.2).1.left.toArray⟩ ∧ R = ⟨(Mk.parse x.2).1.right.toArray⟩)
def Rows4 : List (Nat × Mk.Bs) → List Value → Prop
  | [], c => c = []
  | x :: r, c => ∃ a b, c = a ++ b ∧ Row4 x a ∧ Rows4 r b
theorem Row4.length {x : Nat × Mk.Bs} {c : List Value} (h : Row4 x c) : c.length = 4 := by obtain ⟨L, R, rfl, -⟩ := h; rfl
theorem Rows4.snoc : ∀ {xs : List (Nat × Mk.Bs)} {c : List Value} {x : Nat × Mk.Bs} {d : List Value}, Rows4 xs c → Row4 x d → Rows4 (xs ++ [x]) (c ++ d)
  | [], c, x, d, h, hd => by
    subst h
    exact ⟨d, [], by simp, hd, rfl⟩
  | y :: r, c, x, d, h, hd => by
    obtain ⟨a, b, rfl, h1, h2⟩ := h
    exact ⟨a, b ++ d, by simp, h1, Rows4.snoc h2 hd⟩
theorem Rows4.at : ∀ {xs : List (Nat × Mk.Bs)} {c : List Value}, Rows4 xs c → ∀ (k : Nat) (x : Nat × Mk.Bs), xs[k]? = some x → ∃ a, Row4 x a ∧ ∀ j, j < 4 → c[k * 4 + j]? = a[j]?
  | [], c, h, k, x, hx => by simp at hx
  | y :: r, c, h, 0, x, hx => by
    obtain ⟨a, b, rfl, h1, h2⟩ := h
    obtain rfl : y = x := by simpa using hx
    refine ⟨a, h1, fun j hj => ?_⟩
    rw [List.getElem?_append_left (by rw [h1.length]; omega)]
    congr 1; omega
  | y :: r, c, h, k + 1, x, hx => by
    obtain ⟨a, b, rfl, h1, h2⟩ := h
    obtain ⟨a', h3, h4⟩ := Rows4.at h2 k x (by simpa using hx)
    refine ⟨a', h3, fun j hj => ?_⟩
    rw [List.getElem?_append_right (by rw [h1.length]; omega), h1.length, ← h4 j hj]
    congr 1; omega
def Outs (w : World) (B : Nat) (v : Value) (xs : List (Nat × Mk.Bs)) : Prop := ∃ c, Rows4 xs c ∧ w.ownsRow B 32 4 v xs.length c
theorem Outs.nil (w : World) (B : Nat) : Outs w B (.slice none 0 0) [] := ⟨[], rfl, World.ownsRow_nil _ _ _ _⟩
/-- Two rows of memory whose elements are of two types lie apart. -/
theorem apart {w : World} {B e f a b n m : Nat} {v u : Value} {xs ys : List Value} (h1 : w.ownsRow B e a v n xs) (h2 : w.ownsRow B f b u m ys) (hef : e ≠ f) : v.ownBlock = none ∨ v.ownBlock ≠ u.ownBlock := by
  rcases h1.2 with ⟨rfl, _⟩ | ⟨g, cap, cur, rfl, _, h3, _⟩
  · exact .inl rfl
  · right
    rcases h2.2 with ⟨rfl, _⟩ | ⟨g', cap', cur', rfl, _, h4, _⟩
    · simp [Value.ownBlock]
    · simp only [Value.ownBlock]
      intro h
      have : g = g' := by simpa using h
      subst this
      rw [h3] at h4
      simp at h4
      exact hef h4.2
theorem owns_later {w w' : World} {B e a n : Nat} {v : Value} {xs : List Value} (h : w.ownsRow B e a v n xs) (hb : Below w.heap.size w w') : w'.ownsRow B e a v n xs := by
  refine ⟨h.1, ?_⟩
  rcases h.2 with h1 | ⟨g, cap, cur, h1, h2, h3, h4⟩
  · exact .inl h1
  · exact .inr ⟨g, cap, cur, h1, h2, (hb.block g (Array.getElem?_eq_some_iff.1 h3).1).trans h3, h4⟩
theorem Bytes.snoc {w0 w w' : World} {B : Nat} {v v' out : Value} {bs : Mk.Bs} {outs : List (Nat × Mk.Bs)} {c : UInt8} (o : Obj) (hB : w0.heap.size = B) (hr : Bytes w B v bs) (ho : Outs w B out outs) (hb : Below B w0 w)
    (h : w'.ownsRow B 5 1 v' (bs.length + 1) (bs.map byV ++ [byV c])) (hg : (w.alloc o).grownBy w' v.ownBlock) : Bytes w' B v' (bs ++ [c]) ∧ Outs w' B out outs ∧ Below B w0 w' := by
  have hs := hb.size
  obtain ⟨cs, h1, h2⟩ := ho
  refine ⟨by simpa [Bytes] using h, ⟨cs, h1, (h2.alloc o).kept hg (apart (h2.alloc o) (World.ownsRow.alloc hr o) (by decide))⟩, ?_⟩
  refine (hb.alloc (by omega) o).grown hg (by rw [World.size_alloc]; omega) ?_
  intro k hk
  have := (hr.lt k hk).1
  omega
theorem Outs.snoc {w0 w w' : World} {B : Nat} {out out' : Value} {outs : List (Nat × Mk.Bs)} {cs d : List Value} {x : Nat × Mk.Bs} (o : Obj) (hB : w0.heap.size = B) (hr : Rows4 outs cs) (ho : w.ownsRow B 32 4 out outs.length cs) (hd : Row4 x d) (hb : Below B w0 w)
    (h : w'.ownsRow B 32 4 out' (outs.length + 1) (cs ++ d)) (hg : (w.alloc o).grownBy w' out.ownBlock) : Outs w' B out' (outs ++ [x]) ∧ Below B w0 w' := by
  have hs := hb.size
  refine ⟨⟨_, hr.snoc hd, by simpa using h⟩, ?_⟩
  refine (hb.alloc (by omega) o).grown hg (by rw [World.size_alloc]; omega) ?_
  intro k hk
  have := (ho.lt k hk).1
  omega
def LineC : Prop := ∀ (n : Nat) (s : ByteArray) (w : World), s.size ≤ 4294967200 →
  Calls Tryd.prog 20 #[.int .i64 n, .string s] w fun e w' => ∃ v, e = .returned v ∧ RLn n (Mk.parse s.data.toList) v ∧ Below w.heap.size w w'
/-- The slice's own form, whether it is nil or not. -/
theorem Bytes.form {w : World} {B : Nat} {v : Value} {bs : Mk.Bs} (h : Bytes w B v bs) : ∃ ao cap, v = .slice ao bs.length cap ∧ bs.length ≤ cap ∧ (0 < bs.length → ∃ g, ao = some ⟨g, 0, none⟩) := by
  rcases h.shape with ⟨rfl, rfl⟩ | ⟨g, cap, rfl, h1, h2⟩
  · exact ⟨none, 0, rfl, Nat.le_refl _, fun h => by simp at h⟩
  · exact ⟨_, cap, rfl, h1, fun _ => ⟨g, rfl⟩⟩
theorem four_new (w : World) (a b c d : Value) (t : TypeId) : ∀ (j : Nat) (u : Value), [a, b, c, d][j]? = some u → (w.alloc (.cells #[a, b, c, d] t)).cell? ((⟨w.heap.size, 0, none⟩ : Addr).add j) = some u := by
  intro j u hj
  match j, hj with
  | 0, hj => simp at hj; subst hj; simp [Addr.add]
  | 1, hj => simp at hj; subst hj; simp [Addr.add]
  | 2, hj => simp at hj; subst hj; simp [Addr.add]
  | 3, hj => simp at hj; subst hj; simp [Addr.add]
theorem four_one (a b : Int) (p q : IntKind) (L R : ByteArray) : ∀ u ∈ [Value.int p a, .int q b, .string L, .string R], u.oneCell' = true := by
  intro u hu
  simp at hu
  rcases hu with rfl | rfl | rfl | rfl <;> rfl
theorem RLn.row {n : Nat} {bs : Mk.Bs} {v : Value} (h : RLn n (Mk.parse (⟨bs.toArray⟩ : ByteArray).data.toList) v) :
    ∃ L R : ByteArray, v = .agg #[.int .i64 n, .int .u8 (Mk.rk (Mk.parse bs)), .string L, .string R] ∧ Row4 (n, bs) [.int .i64 n, .int .u8 (Mk.rk (Mk.parse bs)), .string L, .string R] := by
  rw [show (⟨bs.toArray⟩ : ByteArray).data.toList = bs from by simp] at h
  obtain ⟨L, R, rfl, h2⟩ := h
  exact ⟨L, R, rfl, L, R, rfl, h2⟩
theorem Bytes.last {w : World} {B g cap m : Nat} {bs : Mk.Bs} (h : Bytes w B (.slice (some ⟨g, 0, none⟩) bs.length cap) bs) (hm : bs.length = m + 1) :
    ∃ c : UInt8, Mk.endsBack bs = (c == 92) ∧ w.cell? ⟨g, m, none⟩ = some (.int .u8 (c.toNat : Int)) ∧ Bytes w B (.slice (some ⟨g, 0, none⟩) m cap) bs.dropLast := by
  refine ⟨bs[m]'(by omega), ?_, h.cell m (by omega), ?_⟩
  · unfold Mk.endsBack
    rw [List.getLast?_eq_getElem?, show bs.length - 1 = m from by omega, List.getElem?_eq_getElem (by omega)]
    rfl
  · have := h.drop (by omega)
    rwa [hm, Nat.add_sub_cancel] at this
end Go.Proofs.YtjelacjggijmfaaDoor
