/-
  Bytes of numbers as plain lists, and the contract of the document's Bytes (layer 3).
-/
import Derived.Test.YtljfjjfckepkdabProg
import Derived.WalkKit
import Derived.Laws.BytesArg
import Derived.Deep.QuietTactic
import Derived.BigQuiet
import Derived.WalkLawsBesides
import Derived.WalkSpells
namespace Go.Proofs.Ytljfjjfckepkdab
open Go.RowKit

theorem u8info : (Try.prog.info? 5).map (fun i => (i.zero, i.size, i.bytes)) = some (some (.int .u8 0), 1, 1) := by kernel_rfl

/-- The byte at place i from the low end. -/
def byteAt (n : Int) (i : Nat) : Int := n / 2 ^ (8 * i) % 256
/-- The first j of k bytes, the highest first. -/
def bytesP (n : Int) (k j : Nat) : List Int := (List.range j).map fun t => byteAt n (k - 1 - t)
def bytesL (n : Int) (k : Nat) : List Int := bytesP n k k

theorem bytesP_succ (n : Int) (k j : Nat) : bytesP n k (j + 1) = bytesP n k j ++ [byteAt n (k - 1 - j)] := by
  simp [bytesP, List.range_succ]
theorem bytesP_len (n : Int) (k j : Nat) : (bytesP n k j).length = j := by simp [bytesP]

/-- What is owned lies from the base on. -/
theorem own_from {w : World} {base : Nat} {e : TypeId} {size : Nat} {v : Value} {n : Nat} {xs : List Value} (h : w.ownsRow base e size v n xs) : ∀ k, v.ownBlock = some k → base ≤ k := by
  intro k hk
  rcases h.2 with ⟨rfl, _⟩ | ⟨g, cap, cur, rfl, hg, _⟩
  · simp [Value.ownBlock] at hk
  · simp [Value.ownBlock] at hk
    omega

/-- Behind one more element, laid first in a block of its own. -/
theorem below_app {W w w' : World} {e : TypeId} {size : Nat} {v : Value} {n : Nat} {xs : List Value} {o : Obj} (hb : Below W.heap.size W w) (ho : w.ownsRow W.heap.size e size v n xs) (hg : (w.alloc o).grownBy w' v.ownBlock) : Below W.heap.size W w' :=
  (hb.alloc hb.size o).grown hg (Nat.le_trans hb.size (by simp)) (own_from ho)

/-- The elements that a slice owns, at its head. -/
theorem own_cells {w : World} {base : Nat} {e : TypeId} {v : Value} {n : Nat} {xs : List Value} (h : w.ownsRow base e 1 v n xs) (hn : 0 < n) : ∃ g cap, v = .slice (some ⟨g, 0, none⟩) n cap ∧ base ≤ g ∧ g < w.heap.size ∧ n ≤ cap ∧ ∀ i, i < n → w.cell? ⟨g, i, none⟩ = xs[i]? := by
  have h' := h
  rcases h.2 with ⟨_, h0⟩ | ⟨g, cap, cur, rfl, hg, hh, hc, _⟩
  · omega
  · refine ⟨g, cap, rfl, hg, ?_, hc, fun i hi => h'.cellAt i (by omega)⟩
    refine Classical.byContradiction fun hc' => ?_
    have : w.heap[g]? = none := by simp; omega
    rw [this] at hh
    cases hh

set_option maxHeartbeats 1000000 in
theorem bytes_any (n : Int) (k : Nat) (w : World) (_n0 : 0 ≤ n) (_n1 : n ≤ 18446744073709551615) (hk : k ≤ 8) (hk0 : 0 < k) :
    Calls Try.prog 41 #[.int .u64 n, .int .i64 (k : Int)] w fun e w' => e = .returned (.string (strOfNums (bytesL n k))) ∧ Below w.heap.size w w' := by
  obtain ⟨i0, hi, hz0, hz1, hz2⟩ := info_parts u8info
  go_enter Try.func41, Try.ntmps41
  go_wp2_with fail
  go_loopw [5, 6] (fun v iv wr => ∃ j r : Nat, j + r = k ∧ iv = .int .i64 ((r : Int) - 1) ∧ wr.ownsRow w.heap.size 5 1 v j ((bytesP n k j).map (Value.int .u8)) ∧ Below w.heap.size w wr) (fun _ iv _ => (intOf iv + 1).toNat)
  case atStart => exact ⟨0, k, by omega, rfl, World.ownsRow_nil _ _ _ _, Below.refl _ _⟩
  case round =>
    obtain ⟨j, r, hjr, rfl, hown, hbel⟩ := hrel
    cases r with
    | zero =>
      obtain rfl : j = k := by omega
      obtain ⟨g, cap, rfl, _, _, _, hc⟩ := own_cells hown hk0
      have hcv := run_convert_bytes_arg wr 47 5 Try.underlying47 Try.underlying5 g 0 j cap (bytesP n j j) (bytesP_len ..) (fun i hi => by
        rw [Nat.zero_add, hc i hi, List.getElem?_map, List.getD, List.getElem?_eq_getElem (by rw [bytesP_len]; exact hi)]
        rfl) 9 Try.underlying9
      clear hc
      go_wp2
      go_ret
      exact ⟨rfl, hbel⟩
    | succ q =>
      have eq : ((q + 1 : Nat) : Int) - 1 = (q : Int) := by omega
      simp only [eq]
      clear eq
      have hs := hbel.size
      go_wp2_with (at_builtin; refine wpList_append_own _ rfl _ _ 47 rfl w.heap.size 5 i0 (.int .u8 0) 1 1 Try.underlying47 hi hz0 hz1 hz2 rfl (by decide) _ _ _ rfl (hown.alloc _) ⟨wr.heap.size, 0, none⟩ 1 1 [.int .u8 (byteAt n q)] rfl rfl ?c1 ?c2 ?c3 ?c4 ?c5 ?_)
      case c1 => exact cell_one_new _ _ _
      case c2 => intro u hu; simp at hu; subst hu; rfl
      case c3 => unfold maxLen; omega
      case c4 => omega
      case c5 => simp; omega
      intro v' w1 hown' hgrow _
      have hb1 := below_app hbel hown hgrow
      have ho1 : w1.ownsRow w.heap.size 5 1 v' (j + 1) ((bytesP n k (j + 1)).map (Value.int .u8)) := by
        rw [bytesP_succ, List.map_append, show k - 1 - j = q by omega]
        exact hown'
      clear hown' hgrow hown hbel
      go_wp2
      go_roundw
      case rel => exact ⟨j + 1, q, by omega, rfl, ho1, hb1⟩
      case measure => simp [intOf]

end Go.Proofs.Ytljfjjfckepkdab
