/-
  Bytes of numbers as plain lists, and the contract of the document's Bytes (layer 3).
  SHA-256 as plain functions of whole numbers.
  The contracts of the document's turn, ks and Sum (layer 3).
  What was there is there still: the relation between a world and a later one that the contracts of layer 3 tell.
  Texts as lists of numbers, and a text's bytes as they lie in a new row.
-/
import Derived.Test.YtokhpppealdfmafProg
import Derived.WalkKit
import Derived.Laws.BytesArg
import Derived.Deep.QuietTactic
import Derived.BigQuiet
import Derived.WalkLawsBesides
import Derived.WalkSpells
import Derived.Laws.Closers25b
import Derived.Deep.OwnRows
import Derived.Below
import Derived.Carry
import Derived.WalkSmall
import Derived.Deep.Upon
import Derived.Laws.IdiomStrings
namespace Go.Proofs.Ytokhpppealdfmaf
open Go.RowKit

theorem u8info : (Try.prog.info? 5).map (fun i => (i.zero, i.size, i.bytes)) = some (some (.int .u8 0), 1, 1) := by kernel_rfl

/-- The byte at place i from the low end. -/
def byteAt (n : Int) (i : Nat) : Int := n / 2 ^ (8 * i) % 256
/-- The first j of k bytes, the highest first. -/
def bytesP (n : Int) (k j : Nat) : List Int := (List.range j).map fun t => byteAt n (k - 1 - t)
def bytesL (n : Int) (k : Nat) : List Int := bytesP n k k

theorem bytesP_succ (n : Int) (k j : Nat) : bytesP n k (j + 1) = bytesP n k j ++ [byteAt n (k - 1 - j)] := by
  simp [bytesP, List.range_succ]
theorem bytesP_len (n : Int) (k j : Nat) : (bytesP n k j).length = j := by simp [bytesP]

/-- What is owned lies from the base on. -/
theorem own_from {w : World} {base : Nat} {e : TypeId} {size : Nat} {v : Value} {n : Nat} {xs : List Value} (h : w.ownsRow base e size v n xs) : ∀ k, v.ownBlock = some k → base ≤ k := by
  intro k hk
  rcases h.2 with ⟨rfl, _⟩ | ⟨g, cap, cur, rfl, hg, _⟩
  · simp [Value.ownBlock] at hk
  · simp [Value.ownBlock] at hk
    omega

/-- Behind one more element, laid first in a block of its own. -/
theorem below_app {W w w' : World} {e : TypeId} {size : Nat} {v : Value} {n : Nat} {xs : List Value} {o : Obj} (hb : Below W.heap.size W w) (ho : w.ownsRow W.heap.size e size v n xs) (hg : (w.alloc o).grownBy w' v.ownBlock) : Below W.heap.size W w' :=
  (hb.alloc hb.size o).grown hg (Nat.le_trans hb.size (by simp)) (own_from ho)

/-- The elements that a slice owns, at its head. -/
theorem own_cells {w : World} {base : Nat} {e : TypeId} {v : Value} {n : Nat} {xs : List Value} (h : w.ownsRow base e 1 v n xs) (hn : 0 < n) : ∃ g cap, v = .slice (some ⟨g, 0, none⟩) n cap ∧ base ≤ g ∧ g < w.heap.size ∧ n ≤ cap ∧ ∀ i, i < n → w.cell? ⟨g, i, none⟩ = xs[i]? := by
  have h' := h
  rcases h.2 with ⟨_, h0⟩ | ⟨g, cap, cur, rfl, hg, hh, hc, _⟩
  · omega
  · refine ⟨g, cap, rfl, hg, ?_, hc, fun i hi => h'.cellAt i (by omega)⟩
    refine Classical.byContradiction fun hc' => ?_
    have : w.heap[g]? = none := by simp; omega
    rw [this] at hh
    cases hh

set_option maxHeartbeats 1000000 in
theorem bytes_any (n : Int) (k : Nat) (w : World) (_n0 : 0 ≤ n) (_n1 : n ≤ 18446744073709551615) (hk : k ≤ 8) (hk0 : 0 < k) :
    Calls Try.prog 92 #[.int .u64 n, .int .i64 (k : Int)] w fun e w' => e = .returned (.string (strOfNums (bytesL n k))) ∧ Below w.heap.size w w' := by
  obtain ⟨i0, hi, hz0, hz1, hz2⟩ := info_parts u8info
  go_enter Try.func92, Try.ntmps92
  go_wp2_with fail
  go_loopw [5, 6] (fun v iv wr => ∃ j r : Nat, j + r = k ∧ iv = .int .i64 ((r : Int) - 1) ∧ wr.ownsRow w.heap.size 5 1 v j ((bytesP n k j).map (Value.int .u8)) ∧ Below w.heap.size w wr) (fun _ iv _ => (intOf iv + 1).toNat)
  case atStart => exact ⟨0, k, by omega, rfl, World.ownsRow_nil _ _ _ _, Below.refl _ _⟩
  case round =>
    obtain ⟨j, r, hjr, rfl, hown, hbel⟩ := hrel
    cases r with
    | zero =>
      obtain rfl : j = k := by omega
      obtain ⟨g, cap, rfl, _, _, _, hc⟩ := own_cells hown hk0
      have hcv := run_convert_bytes_arg wr 113 5 Try.underlying113 Try.underlying5 g 0 j cap (bytesP n j j) (bytesP_len ..) (fun i hi => by
        rw [Nat.zero_add, hc i hi, List.getElem?_map, List.getD, List.getElem?_eq_getElem (by rw [bytesP_len]; exact hi)]
        rfl) 9 Try.underlying9
      clear hc
      go_wp2
      go_ret
      exact ⟨rfl, hbel⟩
    | succ q =>
      have eq : ((q + 1 : Nat) : Int) - 1 = (q : Int) := by omega
      simp only [eq]
      clear eq
      have hs := hbel.size
      go_wp2_with (at_builtin; refine wpList_append_own _ rfl _ _ 113 rfl w.heap.size 5 i0 (.int .u8 0) 1 1 Try.underlying113 hi hz0 hz1 hz2 rfl (by decide) _ _ _ rfl (hown.alloc _) ⟨wr.heap.size, 0, none⟩ 1 1 [.int .u8 (byteAt n q)] rfl rfl ?c1 ?c2 ?c3 ?c4 ?c5 ?_)
      case c1 => exact cell_one_new _ _ _
      case c2 => intro u hu; simp at hu; subst hu; rfl
      case c3 => unfold maxLen; omega
      case c4 => omega
      case c5 => simp; omega
      intro v' w1 hown' hgrow _
      have hb1 := below_app hbel hown hgrow
      have ho1 : w1.ownsRow w.heap.size 5 1 v' (j + 1) ((bytesP n k (j + 1)).map (Value.int .u8)) := by
        rw [bytesP_succ, List.map_append, show k - 1 - j = q by omega]
        exact hown'
      clear hown' hgrow hown hbel
      go_wp2
      go_roundw
      case rel => exact ⟨j + 1, q, by omega, rfl, ho1, hb1⟩
      case measure => simp [intOf]

end Go.Proofs.Ytokhpppealdfmaf

namespace Go.Proofs.Ytokhpppealdfmaf
open Go.RowKit

def kList : List Int := [1116352408, 1899447441, 3049323471, 3921009573, 961987163, 1508970993, 2453635748, 2870763221, 3624381080, 310598401, 607225278, 1426881987, 1925078388, 2162078206, 2614888103, 3248222580, 3835390401, 4022224774, 264347078, 604807628, 770255983, 1249150122, 1555081692, 1996064986, 2554220882, 2821834349, 2952996808, 3210313671, 3336571891, 3584528711, 113926993, 338241895, 666307205, 773529912, 1294757372, 1396182291, 1695183700, 1986661051, 2177026350, 2456956037, 2730485921, 2820302411, 3259730800, 3345764771, 3516065817, 3600352804, 4094571909, 275423344, 430227734, 506948616, 659060556, 883997877, 958139571, 1322822218, 1537002063, 1747873779, 1955562222, 2024104815, 2227730452, 2361852424, 2428436474, 2756734187, 3204031479, 3329325298]
def hList : List Int := [1779033703, 3144134277, 1013904242, 2773480762, 1359893119, 2600822924, 528734635, 1541459225]
def kS (i : Nat) : Int := kList.getD i 0
def hS (i : Nat) : Int := hList.getD i 0

def add32 (a b : Int) : Int := (a + b) % 4294967296
def or32 (a b : Int) : Int := bits .or .u32 a b
def xor32 (a b : Int) : Int := bits .xor .u32 a b
def and32 (a b : Int) : Int := bits .and .u32 a b
def not32 (a : Int) : Int := bits .xor .u32 4294967295 a
/-- Rotated to the right by n. -/
def rot (x : Int) (n : Nat) : Int := or32 (x / 2 ^ n) (x * 2 ^ (32 - n) % 4294967296)
def low0 (x : Int) : Int := xor32 (xor32 (rot x 7) (rot x 18)) (x / 8)
def low1 (x : Int) : Int := xor32 (xor32 (rot x 17) (rot x 19)) (x / 1024)
def big1 (x : Int) : Int := xor32 (xor32 (rot x 6) (rot x 11)) (rot x 25)
def big0 (x : Int) : Int := xor32 (xor32 (rot x 2) (rot x 13)) (rot x 22)
def pick (e f g : Int) : Int := or32 (and32 e f) (and32 (not32 e) g)
def most (a b c : Int) : Int := or32 (or32 (and32 a b) (and32 a c)) (and32 b c)
/-- Four bytes as a number, the highest first. -/
def four (a b c d : Int) : Int := or32 (or32 (or32 (a * 16777216) (b * 65536)) (c * 256)) d

/-- The word at place t, of the words ahead and the bytes of the piece. -/
def word (B : Nat → Int) (S : Nat → Int) (t : Nat) : Int :=
  if t < 16 then four (B (4 * t)) (B (4 * t + 1)) (B (4 * t + 2)) (B (4 * t + 3))
  else add32 (add32 (add32 (S (t - 16)) (low0 (S (t - 15)))) (S (t - 7))) (low1 (S (t - 2)))
/-- The first t words of a piece; 0 behind them. -/
def sched (B : Nat → Int) : Nat → Nat → Int
  | 0 => fun _ => 0
  | t + 1 => fun j => if j = t then word B (sched B t) t else sched B t j

def one32 (v : Nat → Int) (k w : Int) : Int := add32 (add32 (add32 (add32 (v 7) (big1 (v 4))) (pick (v 4) (v 5) (v 6))) k) w
def two32 (v : Nat → Int) : Int := add32 (big0 (v 0)) (most (v 0) (v 1) (v 2))
/-- One round over the eight numbers. -/
def round32 (v : Nat → Int) (k w : Int) : Nat → Int
  | 0 => add32 (one32 v k w) (two32 v)
  | 1 => v 0
  | 2 => v 1
  | 3 => v 2
  | 4 => add32 (v 3) (one32 v k w)
  | 5 => v 4
  | 6 => v 5
  | 7 => v 6
  | _ => 0
def rounds (W : Nat → Int) : Nat → (Nat → Int) → Nat → Int
  | 0, v => v
  | t + 1, v => round32 (rounds W t v) (kS t) (W t)

/-- The eight numbers behind c pieces of the bytes B. -/
def state (B : Nat → Int) : Nat → Nat → Int
  | 0 => hS
  | c + 1 => fun i => add32 (state B c i) (rounds (sched (fun j => B (64 * c + j)) 64) 64 (state B c) i)

/-- How many bytes 0 stand behind the byte 128. -/
def zeros (n : Nat) : Nat := (119 - n % 64) % 64
/-- A text with what stands behind it. -/
def padL (xs : List Int) : List Int := xs ++ [128] ++ List.replicate (zeros xs.length) 0 ++ bytesL (xs.length * 8) 8
def pieces (n : Nat) : Nat := (n + 1 + zeros n + 8) / 64
def outL (h : Nat → Int) : Nat → List Int
  | 0 => []
  | i + 1 => outL h i ++ bytesL (h i) 4
/-- SHA-256 of bytes. -/
def sumL (xs : List Int) : List Int := outL (state (fun i => (padL xs).getD i 0) (pieces xs.length)) 8

end Go.Proofs.Ytokhpppealdfmaf

namespace Go.Proofs.Ytokhpppealdfmaf
open Go.RowKit

theorem turn_any (x : Int) (n : Nat) (w : World) (n1 : n ≤ 32) :
    Calls Try.prog 103 #[.int .u32 x, .int .i64 (n : Int)] w fun e w' => e = .returned (.int .u32 (rot x n)) ∧ ∃ n, w' = w.drewN n := by
  go_enter Try.func103, Try.ntmps103
  go_wp2_with fail
  go_quiet (fail)
  go_wp2
  go_ret
  exact ⟨rfl, _, rfl⟩

theorem ks_any (w : World) : Calls Try.prog 102 #[] w fun e w' => e = .returned (.slice (some ⟨w.heap.size, 0, none⟩) 64 64) ∧ w' = w.alloc (.cells (kList.map (Value.int .u32)).toArray 124) := by
  go_enter Try.func102, Try.ntmps102
  go_wp2
  go_ret
  exact ⟨rfl, rfl⟩

end Go.Proofs.Ytokhpppealdfmaf

namespace Go.Proofs.Ytokhpppealdfmaf
open Go.RowKit

/-- All blocks that were there are as they were. -/
structure Old (w w' : World) : Prop where
  os : w'.os = w.os
  output : w'.output = w.output
  size : w.heap.size ≤ w'.heap.size
  block : ∀ k, k < w.heap.size → w'.heap[k]? = w.heap[k]?

theorem Old.refl (w : World) : Old w w := ⟨rfl, rfl, Nat.le_refl _, fun _ _ => rfl⟩
theorem Old.trans {a b c : World} (h : Old a b) (k : Old b c) : Old a c :=
  ⟨k.os.trans h.os, k.output.trans h.output, Nat.le_trans h.size k.size, fun i hi => (k.block i (Nat.lt_of_lt_of_le hi h.size)).trans (h.block i hi)⟩
theorem Old.ofBelow {w w' : World} (h : Below w.heap.size w w') : Old w w' := ⟨h.os, h.output, h.size, h.block⟩
theorem Old.alloc {a w : World} (h : Old a w) (o : Obj) : Old a (w.alloc o) :=
  h.trans ⟨rfl, rfl, by simp, fun k hk => Below.heap_alloc _ _ _ hk⟩
theorem Old.drew {a w : World} (h : Old a w) : Old a w.drew := ⟨h.os, h.output, h.size, h.block⟩
theorem Old.drewN {a w : World} (h : Old a w) (n : Nat) : Old a (w.drewN n) := h.trans ⟨rfl, rfl, Nat.le_refl _, fun _ _ => rfl⟩
theorem Old.draws {a w w' : World} (h : Old a w) (hd : ∃ n, w' = w.drewN n) : Old a w' := by
  obtain ⟨n, rfl⟩ := hd
  exact h.drewN n
theorem Old.setCell {a w : World} (h : Old a w) {p : Addr} (hp : a.heap.size ≤ p.block) (u : Value) : Old a (w.setCell p u) :=
  ⟨h.os, h.output, by simpa [World.setCell] using h.size, fun k hk => (Below.heap_setCell _ _ _ _ (by omega)).trans (h.block k hk)⟩
theorem Old.cell {w w' : World} (h : Old w w') {p : Addr} (hp : p.block < w.heap.size) : w'.cell? p = w.cell? p := World.cell?_of_block (w := w) (h.block p.block hp)
theorem Old.cellOf {w w' : World} (h : Old w w') {p : Addr} {v : Value} (hc : w.cell? p = some v) : w'.cell? p = some v := (h.cell (World.block_lt_of_cell? _ _ hc)).trans hc
theorem Old.row {w w' : World} (h : Old w w') {b : Nat} {t : TypeId} {n : Nat} {f : Nat → Value} (hr : w.rowIs b t n f) : w'.rowIs b t n f := hr.of_block (h.block b hr.lt)
theorem Old.frame {W w' : World} (h : Old W w') (may : MemPlace → Prop) : W.keptBut w' may := by
  refine ⟨h.os, h.output, fun i hi => ?_⟩
  rw [h.block i hi]
  split <;> simp_all
theorem Old.same {W w' : World} (h : Old W w') {p : MemPlace} (hp : p.block < W.heap.size) : W.sameAt w' p := by
  cases p with
  | cell b o => exact World.cell?_of_block (w := W) (h.block b hp)
  | map b => exact h.block b hp
theorem Old.trod {H : Type} {enc : TypeId × Value → H} {P : Program} {t : TypeId} (hl : laidOutB P = true) (hr : P.readableRec t = true) (hrow : t < P.types.size) {W W' : World} {v : Value} {d : DataW H} {ps : List MemPlace}
    (h : DataW.Trod enc P W 0 (fun _ => true) true t v d ps) (hb : Old W W') (hlt : ∀ x ∈ ps, x.block < W.heap.size) :
    DataW.Trod enc P W' 0 (fun b => decide (b < W.heap.size)) true t v d ps :=
  WideElems.Trod_stays hl hr hrow h (fun x hx => hb.same (hlt x hx)) (fun x hx => by simpa using hlt x hx)

/-- Behind appends to a row that lies above. -/
theorem Old.upon {w W wx : World} {e : TypeId} {size : Nat} {ao : Option Addr} {b off len cap : Nat} {olds : List Value} {v : Value} {m : Nat} {ks : List Value} {r : Nat} (h : Old w W) (hb : w.heap.size ≤ b) (hu : Upon W e size ao b off len cap olds wx v m ks r) : Old w wx := by
  refine ⟨hu.kept.1.trans h.os, hu.kept.2.1.trans h.output, Nat.le_trans h.size hu.kept.size, fun k hk => ?_⟩
  refine (hu.kept.block (Nat.lt_of_lt_of_le hk h.size) fun p hp => ?_).trans (h.block k hk)
  rintro rfl
  obtain ⟨j, _, rfl⟩ := hp
  simp [MemPlace.block] at hk
  omega
/-- A row that is not the one appended to. -/
theorem row_upon {W wx : World} {e : TypeId} {size : Nat} {ao : Option Addr} {b off len cap : Nat} {olds : List Value} {v : Value} {m : Nat} {ks : List Value} {r : Nat} (hu : Upon W e size ao b off len cap olds wx v m ks r) {b' : Nat} {t : TypeId} {n : Nat} {f : Nat → Value} (hr : W.rowIs b' t n f) (hne : b' ≠ b) : wx.rowIs b' t n f := by
  refine hr.of_block (hu.kept.block hr.lt fun p hp => ?_)
  rintro rfl
  obtain ⟨j, _, rfl⟩ := hp
  exact hne rfl

end Go.Proofs.Ytokhpppealdfmaf

namespace Go.Proofs.Ytokhpppealdfmaf
open Go.RowKit

/-- A text's bytes as numbers. -/
def numsOf (s : ByteArray) : List Int := s.data.toList.map fun b => (b.toNat : Int)
theorem numsOf_len (s : ByteArray) : (numsOf s).length = s.size := by
  unfold numsOf
  rw [List.length_map, Array.length_toList]
  rfl
theorem numsOf_str (s : ByteArray) : strOfNums (numsOf s) = s := by
  have : ∀ l : List UInt8, (l.map fun b => (b.toNat : Int)).map (fun n => UInt8.ofNat n.toNat) = l := by
    intro l
    induction l with
    | nil => rfl
    | cons b l ih => simp only [List.map_cons, ih]; simp
  unfold strOfNums numsOf
  rw [this]
theorem numsOf_bd (s : ByteArray) : ∀ x ∈ numsOf s, 0 ≤ x ∧ x ≤ 255 := by
  intro x hx
  obtain ⟨b, _, rfl⟩ := List.mem_map.1 hx
  have := b.toNat_lt
  omega
/-- Bytes as numbers are bytes. -/
def Bts (xs : List Int) : Prop := ∀ x ∈ xs, 0 ≤ x ∧ x ≤ 255
theorem nums_str {xs : List Int} (h : Bts xs) : numsOf (strOfNums xs) = xs := by
  unfold numsOf
  rw [strOfNums_data, List.map_map]
  conv => rhs; rw [← List.map_id xs]
  refine List.map_congr_left fun x hx => ?_
  have := h x hx
  simp
  omega
theorem str_add (xs ys : List Int) : strOfNums xs ++ strOfNums ys = strOfNums (xs ++ ys) := by
  apply ByteArray.ext
  simp [strOfNums]
theorem byteCells_nums (s : ByteArray) : byteCells s = (numsOf s).map (Value.int .u8) := by
  simp [byteCells, numsOf]
theorem byteAt_bd (n : Int) (i : Nat) : 0 ≤ byteAt n i ∧ byteAt n i ≤ 255 := by
  unfold byteAt
  omega
theorem bytesL_bd (n : Int) (k : Nat) : Bts (bytesL n k) := by
  intro x hx
  obtain ⟨t, _, rfl⟩ := List.mem_map.1 hx
  exact byteAt_bd _ _
theorem bytesL_len (n : Int) (k : Nat) : (bytesL n k).length = k := bytesP_len n k k

/-- The row that []byte lays: its bytes lie at its head; behind them there is room that may be written. -/
theorem came_bytes (w : World) (s : ByteArray) (t : TypeId) (cap : Nat) (h : s.size ≤ cap) :
    Came (w.alloc (.cells (bytesRow s cap) t ((bytesRow s cap).size, (bytesRow s cap).size + 1))) 1 (some ⟨w.heap.size, 0, none⟩) w.heap.size 0 s.size cap ((numsOf s).map (Value.int .u8)) := by
  have hsz : (bytesRow s cap).size = cap := by
    unfold bytesRow
    rw [Array.size_append, Array.size_map, Array.size_replicate]
    have : s.data.size = s.size := rfl
    omega
  refine ⟨h, fun _ => rfl, fun _ => by simp, by simp [numsOf_len], fun j u hj => ?_, fun j hj => ⟨?_, ?_⟩⟩
  · have hj' : j < s.data.size := by
      have := (List.getElem?_eq_some_iff.1 hj).1
      simpa [numsOf] using this
    rw [Nat.zero_add, World.cell?_alloc_mark, bytesRow_at s cap j hj', ← hj]
    simp [numsOf, Array.getElem?_eq_getElem hj']
  · rw [World.cell?_alloc_mark, Array.getElem?_eq_getElem (by rw [hsz]; omega)]
    rfl
  · rw [World.frozen?_alloc_mark, hsz]
    simp
    omega

end Go.Proofs.Ytokhpppealdfmaf
