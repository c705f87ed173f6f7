/-
  Short names of types.
-/
import Derived.Test.YtlnmjbbpenhdbaaGreatProg
import Derived.Below
namespace Go.Proofs.YtlnmjbbpenhdbaaGreat
abbrev NI := Nat -> Int
abbrev NN := Nat -> Nat -> Int
abbrev OA := Option Addr
abbrev G5 (w : World) (b : Nat) (P Q G H : Int) (v : Value) : Prop := w.cell? ⟨b, 0, none⟩ = some (.int .u64 P) /\ w.cell? ⟨b, 1, none⟩ = some (.int .u64 Q) /\ w.cell? ⟨b, 2, none⟩ = some (.int .u64 G) /\ w.cell? ⟨b, 3, none⟩ = some (.int .u64 H) /\ w.cell? ⟨b, 4, none⟩ = some v
abbrev G6 (w : World) (b : Nat) (P Q G H : Int) (v : Value) (R : Prop) : Prop := w.cell? ⟨b, 0, none⟩ = some (.int .u64 P) /\ w.cell? ⟨b, 1, none⟩ = some (.int .u64 Q) /\ w.cell? ⟨b, 2, none⟩ = some (.int .u64 G) /\ w.cell? ⟨b, 3, none⟩ = some (.int .u64 H) /\ w.cell? ⟨b, 4, none⟩ = some v /\ R
theorem g5 {w : World} {b : Nat} {c d e f g : Value} {t : TypeId} (h : w.heap[b]? = some (.cells #[c, d, e, f, g] t (0, 0))) : w.cell? ⟨b, 0, none⟩ = some c /\ w.cell? ⟨b, 1, none⟩ = some d /\ w.cell? ⟨b, 2, none⟩ = some e /\ w.cell? ⟨b, 3, none⟩ = some f /\ w.cell? ⟨b, 4, none⟩ = some g := ⟨cell_of_row _ _ 0 _ _ (0, 0) h, cell_of_row _ _ 1 _ _ (0, 0) h, cell_of_row _ _ 2 _ _ (0, 0) h, cell_of_row _ _ 3 _ _ (0, 0) h, cell_of_row _ _ 4 _ _ (0, 0) h⟩
theorem g6 {w : World} {b : Nat} {c d e f g i : Value} {t : TypeId} (h : w.heap[b]? = some (.cells #[c, d, e, f, g, i] t (0, 0))) : w.cell? ⟨b, 0, none⟩ = some c /\ w.cell? ⟨b, 1, none⟩ = some d /\ w.cell? ⟨b, 2, none⟩ = some e /\ w.cell? ⟨b, 3, none⟩ = some f /\ w.cell? ⟨b, 4, none⟩ = some g /\ w.cell? ⟨b, 5, none⟩ = some i := ⟨cell_of_row _ _ 0 _ _ (0, 0) h, cell_of_row _ _ 1 _ _ (0, 0) h, cell_of_row _ _ 2 _ _ (0, 0) h, cell_of_row _ _ 3 _ _ (0, 0) h, cell_of_row _ _ 4 _ _ (0, 0) h, cell_of_row _ _ 5 _ _ (0, 0) h⟩
open Go.RowKit in
theorem hid {p : Prop} (h : p) : Hid p := h
theorem Y0 {w : World} {g : Nat} {cs : Array Value} {t : TypeId} (h : w.heap[g]? = some (.cells cs t (0, 0))) : w.cell? ⟨g, 0, none⟩ = cs[0]? := cell_of_row _ _ 0 _ _ (0, 0) h
theorem Y1 {w : World} {g : Nat} {cs : Array Value} {t : TypeId} (h : w.heap[g]? = some (.cells cs t (0, 0))) : w.cell? ⟨g, 1, none⟩ = cs[1]? := cell_of_row _ _ 1 _ _ (0, 0) h
theorem Y2 {w : World} {g : Nat} {cs : Array Value} {t : TypeId} (h : w.heap[g]? = some (.cells cs t (0, 0))) : w.cell? ⟨g, 2, none⟩ = cs[2]? := cell_of_row _ _ 2 _ _ (0, 0) h
theorem Y3 {w : World} {g : Nat} {cs : Array Value} {t : TypeId} (h : w.heap[g]? = some (.cells cs t (0, 0))) : w.cell? ⟨g, 3, none⟩ = cs[3]? := cell_of_row _ _ 3 _ _ (0, 0) h
theorem Y4 {w : World} {g : Nat} {cs : Array Value} {t : TypeId} (h : w.heap[g]? = some (.cells cs t (0, 0))) : w.cell? ⟨g, 4, none⟩ = cs[4]? := cell_of_row _ _ 4 _ _ (0, 0) h
theorem Y5 {w : World} {g : Nat} {cs : Array Value} {t : TypeId} (h : w.heap[g]? = some (.cells cs t (0, 0))) : w.cell? ⟨g, 5, none⟩ = cs[5]? := cell_of_row _ _ 5 _ _ (0, 0) h
open Go.RowKit in
theorem g8 {R : World -> Prop} {g k : Nat} {c d e f h l m n o p q : Value} {t t' : TypeId} (HG : ∀ wx, R wx -> wx.heap[g]? = some (.cells #[c, d, e, f, h] t (0, 0))) (HT : ∀ wx, R wx -> wx.heap[k]? = some (.cells #[l, m, n, o, p, q] t' (0, 0))) : Hid (∀ wx, R wx -> wx.cell? ⟨g, 0, none⟩ = some c /\ wx.cell? ⟨g, 1, none⟩ = some d /\ wx.cell? ⟨g, 2, none⟩ = some e /\ wx.cell? ⟨g, 3, none⟩ = some f /\ wx.cell? ⟨g, 4, none⟩ = some h /\ wx.cell? ⟨k, 0, none⟩ = some l /\ wx.cell? ⟨k, 2, none⟩ = some n /\ wx.cell? ⟨k, 5, none⟩ = some q) := fun _ ho => ⟨Y0 (HG _ ho), Y1 (HG _ ho), Y2 (HG _ ho), Y3 (HG _ ho), Y4 (HG _ ho), Y0 (HT _ ho), Y2 (HT _ ho), Y5 (HT _ ho)⟩
end Go.Proofs.YtlnmjbbpenhdbaaGreat
