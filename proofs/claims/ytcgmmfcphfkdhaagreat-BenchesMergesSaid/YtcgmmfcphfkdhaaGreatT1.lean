/- Journals, plainly: frames, checks, what a scan finds; one bit inverted. -/
namespace Go.Torn

def ws : Nat → List Nat → Nat
 | _, [] => 0
 | k, x :: l => k * x + ws (k + 1) l

def chk (b : List Nat) : Nat := (1 + ws 1 b) % 65521
def two (n : Nat) : List Nat := [n % 256, n / 256]
def ckd (b : List Nat) (n : Nat) : Bool := decide (n + 2 ≤ b.length) && decide ((b.drop n).take 2 = two (chk (b.take n)))
def len0 (r : List Nat) : Nat := r.getD 0 0 + 256 * r.getD 1 0
def good (mx : Nat) (r : List Nat) : Bool := ckd r 2 && (decide (len0 r ≤ mx) && ckd (r.drop 4) (len0 r))

def scan (mx : Nat) : Nat → List Nat → List (List Nat) × List Nat
 | 0, r => ([], r)
 | n + 1, r => if good mx r then let p := scan mx n ((r.drop 4).drop (len0 r + 2)); (((r.drop 4).take (len0 r)) :: p.1, p.2) else ([], r)

/-! ### One bit inverted -/

end Go.Torn
