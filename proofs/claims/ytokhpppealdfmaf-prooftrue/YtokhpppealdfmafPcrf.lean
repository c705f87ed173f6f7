/-
  What stands in the slots of Crosses (layer 7), whatever has come up.
-/
import Derived.Test.YtokhpppealdfmafPmk
namespace Go.Proofs.Ytokhpppealdfmaf
open Go.RowKit

theorem lain4 (w : World) (c d e f : Array Value) (t s r q : TypeId) : Lain w [(c, t), (d, s), (e, r), (f, q)] ((((w.alloc (.cells c t)).alloc (.cells d s)).alloc (.cells e r)).alloc (.cells f q)) := (lain3 w c d e t s r).add (by simp) f q
def crsF (base s : Nat) (P Q G H : Int) (a : Option Addr) (n cap : Nat) (key y u1 m1 v1 m2 v2 o1 o2 o3 : Int) : Nat → Value → World → Prop
  | 0, v, _ => v = .int .u64 key
  | 1, v, _ => v = gv P Q G H a n cap
  | 2, v, _ => v = .pointer (some ⟨s + 1 + 1, 1, none⟩)
  | 3, v, _ => v = .int .u64 m2
  | 4, v, _ => v = .pointer (some ⟨s + 1, 1, none⟩)
  | 5, v, _ => v = .int .u64 m1
  | 6, v, _ => v = .int .u64 o1
  | 7, v, _ => v = gv P Q G H a n cap
  | 8, v, _ => v = .pointer (some ⟨s + 1 + 1, 2, none⟩)
  | 9, v, _ => v = .int .u64 v2
  | 10, v, _ => v = .pointer (some ⟨s + 1, 2, none⟩)
  | 11, v, _ => v = .int .u64 v1
  | 12, v, _ => v = .int .u64 o2
  | 13, v, w => ∃ b, v = .slice (some ⟨b, 0, none⟩) 3 3 ∧ Nums w base v 3 (tri7 key o1 o2)
  | 14, v, _ => v = .pointer (some ⟨s, 2, none⟩)
  | 15, v, _ => v = .int .u64 G
  | 16, v, w => ∃ b, v = .slice (some ⟨b, 0, none⟩) 2 2 ∧ Nums w base v 2 (two7 G 1)
  | 17, v, _ => v = .pointer (some ⟨s, 2, none⟩)
  | 18, v, _ => v = .int .u64 G
  | 19, v, w => ∃ b, v = .slice (some ⟨b, 0, none⟩) 2 2 ∧ Nums w base v 2 (two7 1 G)
  | 20, v, _ => v = gv P Q G H a n cap
  | 21, v, _ => v = .pointer (some ⟨s + 1, 0, none⟩)
  | 22, v, _ => v = .int .u64 u1
  | 23, v, _ => v = .int .u64 o3
  | 24, v, _ => v = .int .u64 y
  | 25, v, w => ∃ b, v = .slice (some ⟨b, 0, none⟩) 2 2 ∧ Nums w base v 2 (two7 o3 y)
  | 26, v, w => ∃ b, v = .slice (some ⟨b, 0, none⟩) 3 3 ∧ Rws w base v 3 (fun _ => 2) (tri7r (two7 G 1) (two7 1 G) (two7 o3 y))
  | 27, v, w => ∃ x z, v = .agg #[.slice (some ⟨x, 0, none⟩) 3 3, .slice (some ⟨z, 0, none⟩) 3 3] ∧ Nums w base (.slice (some ⟨x, 0, none⟩) 3 3) 3 (tri7 key o1 o2) ∧ Rws w base (.slice (some ⟨z, 0, none⟩) 3 3) 3 (fun _ => 2) (tri7r (two7 G 1) (two7 1 G) (two7 o3 y))
  | _, _, _ => True
theorem crsF_old {base s : Nat} {P Q G H : Int} {a : Option Addr} {n cap : Nat} {key y u1 m1 v1 m2 v2 o1 o2 o3 : Int} {w w' : World} (k : Nat) (v : Value) (h : crsF base s P Q G H a n cap key y u1 m1 v1 m2 v2 o1 o2 o3 k v w) (ho : Old w w') : crsF base s P Q G H a n cap key y u1 m1 v1 m2 v2 o1 o2 o3 k v w' := by
  match k, h with
  | 0, h => exact h
  | 1, h => exact h
  | 2, h => exact h
  | 3, h => exact h
  | 4, h => exact h
  | 5, h => exact h
  | 6, h => exact h
  | 7, h => exact h
  | 8, h => exact h
  | 9, h => exact h
  | 10, h => exact h
  | 11, h => exact h
  | 12, h => exact h
  | 13, ⟨b, e, h⟩ => exact ⟨b, e, h.old ho⟩
  | 14, h => exact h
  | 15, h => exact h
  | 16, ⟨b, e, h⟩ => exact ⟨b, e, h.old ho⟩
  | 17, h => exact h
  | 18, h => exact h
  | 19, ⟨b, e, h⟩ => exact ⟨b, e, h.old ho⟩
  | 20, h => exact h
  | 21, h => exact h
  | 22, h => exact h
  | 23, h => exact h
  | 24, h => exact h
  | 25, ⟨b, e, h⟩ => exact ⟨b, e, h.old ho⟩
  | 26, ⟨b, e, h⟩ => exact ⟨b, e, h.old ho⟩
  | 27, ⟨x, z, e, h, k⟩ => exact ⟨x, z, e, h.old ho, k.old ho⟩
  | _ + 28, _ => exact trivial

end Go.Proofs.Ytokhpppealdfmaf
