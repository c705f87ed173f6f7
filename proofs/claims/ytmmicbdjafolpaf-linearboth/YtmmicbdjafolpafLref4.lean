/-
  The contracts of the document's functions of layer 6: whether a claim holds, what is faked, which talk is accepted.
-/
import Derived.Test.YtmmicbdjafolpafLref3
namespace Go.Proofs.Ytmmicbdjafolpaf
open Go.RowKit

/-- Does a claim hold? -/
def holdsL (P Q : Int) (nt : Nat) (T : Nat → Int) (nb : Nat) (L : Nat → Nat) (B : Nat → Nat → Int) (nz : Nat) (X : Nat → Int) : Bool :=
  fitsB (sizeN P Q nt T nb L B) nz && sameB nt (fun j => imI P Q (B j) X (sizeN P Q nt T nb L B)) nt T

/-- Is a talk accepted? -/
def accB (P Q : Int) (nt : Nat) (T : Nat → Int) (nb : Nat) (L : Nat → Nat) (B : Nat → Nat → Int) (nk : Nat) (K : Nat → Int) (ch : Int) (nz : Nat) (X : Nat → Int) : Bool :=
  fitsB (sizeN P Q nt T nb L B) nz && (decide (nk = nt) && (List.range nt).all fun j => inI P Q (K j) && (imI P Q (B j) X (sizeN P Q nt T nb L B) == mulI (K j) (expI P Q (T j) ch) P))
theorem accB_iff {P Q : Int} {nt : Nat} {T : Nat → Int} {nb : Nat} {L : Nat → Nat} {B : Nat → Nat → Int} {nk : Nat} {K : Nat → Int} {ch : Int} {nz : Nat} {X : Nat → Int} :
    accB P Q nt T nb L B nk K ch nz X = true ↔ fitsB (sizeN P Q nt T nb L B) nz = true ∧ nk = nt ∧ ∀ j, j < nt → inI P Q (K j) = true ∧ imI P Q (B j) X (sizeN P Q nt T nb L B) = mulI (K j) (expI P Q (T j) ch) P := by
  simp [accB]

end Go.Proofs.Ytmmicbdjafolpaf
