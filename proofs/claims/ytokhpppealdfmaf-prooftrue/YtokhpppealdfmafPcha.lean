/-
  The challenge (layer 7), and the document's Challenge.
-/
import Derived.Test.YtokhpppealdfmafPnum
import Derived.Test.YtokhpppealdfmafK15
namespace Go.Proofs.Ytokhpppealdfmaf
open Go.RowKit

def four4 (P Q G H : Int) : Nat → Int
  | 0 => P
  | 1 => Q
  | 2 => G
  | _ => H
/-- The parts that are told of: the group, the targets, each row of bases, t. -/
def partS (P Q G H : Int) (nt : Nat) (T : Nat → Int) (nb : Nat) (L : Nat → Nat) (B : Nat → Nat → Int) (nk : Nat) (K : Nat → Int) : Nat → List Int
  | 0 => packL (four4 P Q G H) 4
  | 1 => packL T nt
  | i + 2 => if i < nb then packL (B i) (L i) else packL K nk
/-- The challenge. -/
def chI (label : List Int) (P Q G H : Int) (nt : Nat) (T : Nat → Int) (nb : Nat) (L : Nat → Nat) (B : Nat → Nat → Int) (nk : Nat) (K : Nat → Int) : Int := numberI label (partS P Q G H nt T nb L B nk K) (nb + 3) Q
theorem partS_bd (P Q G H : Int) (nt : Nat) (T : Nat → Int) (nb : Nat) (L : Nat → Nat) (B : Nat → Nat → Int) (nk : Nat) (K : Nat → Int) : ∀ i, Bts (partS P Q G H nt T nb L B nk K i)
  | 0 => packL_bd _ _
  | 1 => packL_bd _ _
  | i + 2 => by
    show Bts (if i < nb then packL (B i) (L i) else packL K nk)
    split <;> exact packL_bd _ _
theorem partS_len (P Q G H : Int) {nt : Nat} (T : Nat → Int) {nb : Nat} {L : Nat → Nat} (B : Nat → Nat → Int) {nk : Nat} (K : Nat → Int) (h1 : nt ≤ 80) (h2 : ∀ j, j < nb → L j ≤ 80) (h3 : nk ≤ 80) : ∀ i, (partS P Q G H nt T nb L B nk K i).length ≤ 640
  | 0 => by show (packL (four4 P Q G H) 4).length ≤ 640; rw [packL_len]; omega
  | 1 => by show (packL T nt).length ≤ 640; rw [packL_len]; omega
  | i + 2 => by
    show (if i < nb then packL (B i) (L i) else packL K nk).length ≤ 640
    split
    · rename_i h; rw [packL_len]; have := h2 i h; omega
    · rw [packL_len]; omega
theorem numL_le {label : List Int} {S : Nat → List Int} (h : ∀ i, (S i).length ≤ 640) : ∀ n, (numL label S n).length ≤ 8 + label.length + 648 * n
  | 0 => by show (bytesL label.length 8 ++ label).length ≤ _; rw [List.length_append, bytesL_len]; omega
  | n + 1 => by rw [numL_succ_len]; have := numL_le (label := label) h n; have := h n; omega
theorem partS_row {P Q G H : Int} {nt : Nat} {T : Nat → Int} {nb : Nat} {L : Nat → Nat} {B : Nat → Nat → Int} {nk : Nat} {K : Nat → Int} {i : Nat} (h : i < nb) : partS P Q G H nt T nb L B nk K (i + 2) = packL (B i) (L i) := if_pos h
theorem partS_last {P Q G H : Int} {nt : Nat} {T : Nat → Int} {nb : Nat} {L : Nat → Nat} {B : Nat → Nat → Int} {nk : Nat} {K : Nat → Int} : partS P Q G H nt T nb L B nk K (nb + 2) = packL K nk := if_neg (Nat.lt_irrefl _)

theorem facs_four (w : World) (P Q G H : Int) (t : TypeId) (h4 : Four P Q G H) : FacsIn (w.alloc (.cells #[.int .u64 P, .int .u64 Q, .int .u64 G, .int .u64 H] t)) (some ⟨w.heap.size, 0, none⟩) 4 (four4 P Q G H) := by
  refine Or.inr ⟨_, _, rfl, by simp, fun j hj => ?_⟩
  match j, hj with
  | 0, _ => exact ⟨(World.cell?_alloc_mark w _ t (0, 0) 0).trans rfl, h4.p0, h4.p1⟩
  | 1, _ => exact ⟨(World.cell?_alloc_mark w _ t (0, 0) 1).trans rfl, h4.q0, h4.q1⟩
  | 2, _ => exact ⟨(World.cell?_alloc_mark w _ t (0, 0) 2).trans rfl, h4.g0, h4.g1⟩
  | 3, _ => exact ⟨(World.cell?_alloc_mark w _ t (0, 0) 3).trans rfl, h4.h0, h4.h1⟩
theorem Old.drewAlloc (w : World) (o : Obj) : Old (w.alloc o) (w.drew.alloc o) := ⟨rfl, rfl, Nat.le_refl _, fun _ _ => rfl⟩

end Go.Proofs.Ytokhpppealdfmaf
