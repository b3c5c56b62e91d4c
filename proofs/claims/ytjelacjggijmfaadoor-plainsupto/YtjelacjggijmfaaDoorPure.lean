/-
  What Plain is, as plain functions on lists of bytes: lines, what each is, and its plain form.
-/
namespace Go.Mk
abbrev Bs := List UInt8

def blk (c : UInt8) : Bool := c == 32 || c == 9
def cutL (l : Bs) : Bs := l.dropWhile blk
def cutR (l : Bs) : Bs := (l.reverse.dropWhile blk).reverse
def cut (l : Bs) : Bs := cutL (cutR l)
def noBack (l : Bs) : Bs := (l.reverse.dropWhile (· == 92)).reverse
def endsBack (l : Bs) : Bool := l.getLast? == some 92

def segs : Bs → List Bs
  | [] => [[]]
  | c :: r => if c == 10 then [] :: segs r else (c :: (segs r).headD []) :: (segs r).tail

def take1 : Bs → Nat → Bs → List Bs → Bs × Nat × List Bs
  | acc, used, p, [] => (acc ++ noBack p, used, [])
  | acc, used, p, q :: qs => if endsBack p then take1 (acc ++ p.dropLast ++ [32]) (used + 1) (cutL q) qs else (acc ++ p, used, q :: qs)

def joinF : Nat → Nat → List Bs → List (Nat × Bs)
  | 0, _, _ => []
  | _ + 1, _, [] => []
  | f + 1, n, p :: ps => (n, (take1 [] 1 p ps).1) :: joinF f (n + (take1 [] 1 p ps).2.1) (take1 [] 1 p ps).2.2
def joined (t : Bs) : List (Nat × Bs) := joinF (segs t).length 1 (segs t)

structure Ln where
  number : Nat
  kind : Nat
  left : Bs
  right : Bs

def Ln.zero : Ln := ⟨0, 0, [], []⟩
def incl : Bs := [105, 110, 99, 108, 117, 100, 101]
def before (c : UInt8) (l : Bs) : Bs := l.takeWhile (fun x => !(x == c))
def letter (c : UInt8) : Bool := (65 ≤ c && c ≤ 90) || (97 ≤ c && c ≤ 122) || (48 ≤ c && c ≤ 57) || c == 95
def isName (l : Bs) : Bool := !l.isEmpty && decide (l.length ≤ 16) && l.all letter
def noSign (c : UInt8) : Bool := !(c == 61 || c == 58)
def kindOf : Bs → Nat × Bs
  | 58 :: 61 :: b => (3, b)
  | 61 :: b => (4, b)
  | l => (5, l.tail)
def mayStand (kind : Nat) (left : Bs) : Bool :=
  if left == incl then false else if kind == 5 then !left.isEmpty else isName left
def parseCmd (w : Bs) : Ln := if (cutL w).isEmpty then Ln.zero else ⟨0, 1, [], cutL w⟩
def isIncl (t : Bs) : Bool := incl.isPrefixOf t && (match t.drop 7 with | [] => true | c :: _ => blk c)
def parseIncl (b : Bs) : Ln × Nat := if b.isEmpty then (Ln.zero, 1) else (⟨0, 2, [], b⟩, 0)
def parseSides (t : Bs) : Ln × Nat :=
  if (t.dropWhile noSign).isEmpty then (Ln.zero, 1)
  else if mayStand (kindOf (t.dropWhile noSign)).1 (cut (t.takeWhile noSign)) then (⟨0, (kindOf (t.dropWhile noSign)).1, cut (t.takeWhile noSign), cut (kindOf (t.dropWhile noSign)).2⟩, 0)
  else (Ln.zero, 1)
def parse (w : Bs) : Ln × Nat :=
  if [9].isPrefixOf w then (parseCmd w, 0)
  else if (cut (before 35 w)).isEmpty then (Ln.zero, 0)
  else if isIncl (cut (before 35 w)) then parseIncl (cut ((cut (before 35 w)).drop 7))
  else parseSides (cut (before 35 w))

def allF : List (Nat × Bs) → List (Ln × Nat)
  | [] => []
  | (n, w) :: r => if (parse w).2 == 0 && (parse w).1.kind == 0 then allF r
      else ({ (parse w).1 with number := n }, (parse w).2) :: (if (parse w).2 == 0 then allF r else [])

def wordsA : Bs → Bs → List Bs
  | cur, [] => if cur.isEmpty then [] else [cur]
  | cur, c :: r => if blk c then (if cur.isEmpty then wordsA [] r else cur :: wordsA [] r) else wordsA (cur ++ [c]) r
def words (l : Bs) : List Bs := wordsA [] l
def oneBlank (l : Bs) : Bs := [32].intercalate (words l)
def sides (left sign right : Bs) : Bs := if right.isEmpty then left ++ [32] ++ sign else left ++ [32] ++ sign ++ [32] ++ right
def written (l : Ln) : Bs :=
  if l.kind == 1 then [9] ++ l.right
  else if l.kind == 2 then incl ++ [32] ++ oneBlank l.right
  else if l.kind == 3 then sides l.left [58, 61] l.right
  else if l.kind == 4 then sides l.left [61] l.right
  else sides (oneBlank l.left) [58] (oneBlank l.right)
def closed (l : Bs) : Bs := if endsBack l then l ++ [32] else l

/-- The flag and the text behind some lines; none: it has ended with an error. -/
def textTo : Bool → Bs → List (Ln × Nat) → Option (Bool × Bs)
  | op, acc, [] => some (op, acc)
  | op, acc, (l, e) :: r => if e == 0 && !(l.kind == 1 && !op) then textTo (if l.kind == 1 then op else l.kind == 5) (acc ++ closed (written l) ++ [10]) r else none
def textF : Bool → Bs → List (Ln × Nat) → Bs × Nat × Nat
  | _, acc, [] => (acc, 0, 0)
  | op, acc, (l, e) :: r => if e == 0 then (if l.kind == 1 && !op then ([], 1, l.number) else textF (if l.kind == 1 then op else l.kind == 5) (acc ++ closed (written l) ++ [10]) r) else ([], e, l.number)
def plainOf (t : Bs) : Bs × Nat × Nat := textF false [] (allF (joined t))
end Go.Mk
