/-
  SHA-256 as plain functions of whole numbers.
-/
import Derived.Test.YtljfjjfckepkdabByt
import Derived.Laws.Closers25b
namespace Go.Proofs.Ytljfjjfckepkdab
open Go.RowKit

def kList : List Int := [1116352408, 1899447441, 3049323471, 3921009573, 961987163, 1508970993, 2453635748, 2870763221, 3624381080, 310598401, 607225278, 1426881987, 1925078388, 2162078206, 2614888103, 3248222580, 3835390401, 4022224774, 264347078, 604807628, 770255983, 1249150122, 1555081692, 1996064986, 2554220882, 2821834349, 2952996808, 3210313671, 3336571891, 3584528711, 113926993, 338241895, 666307205, 773529912, 1294757372, 1396182291, 1695183700, 1986661051, 2177026350, 2456956037, 2730485921, 2820302411, 3259730800, 3345764771, 3516065817, 3600352804, 4094571909, 275423344, 430227734, 506948616, 659060556, 883997877, 958139571, 1322822218, 1537002063, 1747873779, 1955562222, 2024104815, 2227730452, 2361852424, 2428436474, 2756734187, 3204031479, 3329325298]
def hList : List Int := [1779033703, 3144134277, 1013904242, 2773480762, 1359893119, 2600822924, 528734635, 1541459225]
def kS (i : Nat) : Int := kList.getD i 0
def hS (i : Nat) : Int := hList.getD i 0

def add32 (a b : Int) : Int := (a + b) % 4294967296
def or32 (a b : Int) : Int := bits .or .u32 a b
def xor32 (a b : Int) : Int := bits .xor .u32 a b
def and32 (a b : Int) : Int := bits .and .u32 a b
def not32 (a : Int) : Int := bits .xor .u32 4294967295 a
/-- Rotated to the right by n. -/
def rot (x : Int) (n : Nat) : Int := or32 (x / 2 ^ n) (x * 2 ^ (32 - n) % 4294967296)
def low0 (x : Int) : Int := xor32 (xor32 (rot x 7) (rot x 18)) (x / 8)
def low1 (x : Int) : Int := xor32 (xor32 (rot x 17) (rot x 19)) (x / 1024)
def big1 (x : Int) : Int := xor32 (xor32 (rot x 6) (rot x 11)) (rot x 25)
def big0 (x : Int) : Int := xor32 (xor32 (rot x 2) (rot x 13)) (rot x 22)
def pick (e f g : Int) : Int := or32 (and32 e f) (and32 (not32 e) g)
def most (a b c : Int) : Int := or32 (or32 (and32 a b) (and32 a c)) (and32 b c)
/-- Four bytes as a number, the highest first. -/
def four (a b c d : Int) : Int := or32 (or32 (or32 (a * 16777216) (b * 65536)) (c * 256)) d

/-- The word at place t, of the words ahead and the bytes of the piece. -/
def word (B : Nat → Int) (S : Nat → Int) (t : Nat) : Int :=
  if t < 16 then four (B (4 * t)) (B (4 * t + 1)) (B (4 * t + 2)) (B (4 * t + 3))
  else add32 (add32 (add32 (S (t - 16)) (low0 (S (t - 15)))) (S (t - 7))) (low1 (S (t - 2)))
/-- The first t words of a piece; 0 behind them. -/
def sched (B : Nat → Int) : Nat → Nat → Int
  | 0 => fun _ => 0
  | t + 1 => fun j => if j = t then word B (sched B t) t else sched B t j

def one32 (v : Nat → Int) (k w : Int) : Int := add32 (add32 (add32 (add32 (v 7) (big1 (v 4))) (pick (v 4) (v 5) (v 6))) k) w
def two32 (v : Nat → Int) : Int := add32 (big0 (v 0)) (most (v 0) (v 1) (v 2))
/-- One round over the eight numbers. -/
def round32 (v : Nat → Int) (k w : Int) : Nat → Int
  | 0 => add32 (one32 v k w) (two32 v)
  | 1 => v 0
  | 2 => v 1
  | 3 => v 2
  | 4 => add32 (v 3) (one32 v k w)
  | 5 => v 4
  | 6 => v 5
  | 7 => v 6
  | _ => 0
def rounds (W : Nat → Int) : Nat → (Nat → Int) → Nat → Int
  | 0, v => v
  | t + 1, v => round32 (rounds W t v) (kS t) (W t)

/-- The eight numbers behind c pieces of the bytes B. -/
def state (B : Nat → Int) : Nat → Nat → Int
  | 0 => hS
  | c + 1 => fun i => add32 (state B c i) (rounds (sched (fun j => B (64 * c + j)) 64) 64 (state B c) i)

/-- How many bytes 0 stand behind the byte 128. -/
def zeros (n : Nat) : Nat := (119 - n % 64) % 64
/-- A text with what stands behind it. -/
def padL (xs : List Int) : List Int := xs ++ [128] ++ List.replicate (zeros xs.length) 0 ++ bytesL (xs.length * 8) 8
def pieces (n : Nat) : Nat := (n + 1 + zeros n + 8) / 64
def outL (h : Nat → Int) : Nat → List Int
  | 0 => []
  | i + 1 => outL h i ++ bytesL (h i) 4
/-- SHA-256 of bytes. -/
def sumL (xs : List Int) : List Int := outL (state (fun i => (padL xs).getD i 0) (pieces xs.length)) 8

end Go.Proofs.Ytljfjjfckepkdab
