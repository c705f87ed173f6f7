/-
  Short names of types.
-/
import Derived.Test.YtlnmjbbpenhdbaaGreatProg
import Derived.Below
namespace Go.Proofs.YtlnmjbbpenhdbaaGreat
abbrev NI := Nat -> Int
abbrev NN := Nat -> Nat -> Int
abbrev OA := Option Addr
abbrev G5 (w : World) (b : Nat) (P Q G H : Int) (v : Value) : Prop := w.cell? ⟨b, 0, none⟩ = some (.int .u64 P) /\ w.cell? ⟨b, 1, none⟩ = some (.int .u64 Q) /\ w.cell? ⟨b, 2, none⟩ = some (.int .u64 G) /\ w.cell? ⟨b, 3, none⟩ = some (.int .u64 H) /\ w.cell? ⟨b, 4, none⟩ = some v
theorem g5 {w : World} {b : Nat} {c d e f g : Value} {t : TypeId} (h : w.heap[b]? = some (.cells #[c, d, e, f, g] t (0, 0))) : w.cell? ⟨b, 0, none⟩ = some c /\ w.cell? ⟨b, 1, none⟩ = some d /\ w.cell? ⟨b, 2, none⟩ = some e /\ w.cell? ⟨b, 3, none⟩ = some f /\ w.cell? ⟨b, 4, none⟩ = some g := ⟨cell_of_row _ _ 0 _ _ (0, 0) h, cell_of_row _ _ 1 _ _ (0, 0) h, cell_of_row _ _ 2 _ _ (0, 0) h, cell_of_row _ _ 3 _ _ (0, 0) h, cell_of_row _ _ 4 _ _ (0, 0) h⟩
theorem g6 {w : World} {b : Nat} {c d e f g i : Value} {t : TypeId} (h : w.heap[b]? = some (.cells #[c, d, e, f, g, i] t (0, 0))) : w.cell? ⟨b, 0, none⟩ = some c /\ w.cell? ⟨b, 1, none⟩ = some d /\ w.cell? ⟨b, 2, none⟩ = some e /\ w.cell? ⟨b, 3, none⟩ = some f /\ w.cell? ⟨b, 4, none⟩ = some g /\ w.cell? ⟨b, 5, none⟩ = some i := ⟨cell_of_row _ _ 0 _ _ (0, 0) h, cell_of_row _ _ 1 _ _ (0, 0) h, cell_of_row _ _ 2 _ _ (0, 0) h, cell_of_row _ _ 3 _ _ (0, 0) h, cell_of_row _ _ 4 _ _ (0, 0) h, cell_of_row _ _ 5 _ _ (0, 0) h⟩
theorem hid {p : Prop} (h : p) : Hid p := h
end Go.Proofs.YtlnmjbbpenhdbaaGreat
