/-
  How many elements a group has, and how many its powers are: over lists of keys (layer 4).
-/
import Derived.Test.YtljfjjfckepkdadGlaw
import Derived.Maps.OwnSet
namespace Go.Proofs.Ytljfjjfckepkdad
open Go.RowKit Go.Maps Go.WideMaps

theorem cnt_succ (p q i : Nat) : cnt p q (i + 1) = cnt p q i + if elm p q i then 1 else 0 := rfl
theorem cnt_le (p q : Nat) : ∀ i, cnt p q i ≤ i
  | 0 => Nat.le_refl _
  | i + 1 => by
    have := cnt_le p q i
    rw [cnt_succ]
    split <;> omega

theorem expI_bd (P Q x e : Int) : 0 ≤ expI P Q x e ∧ expI P Q x e ≤ 4611686018427387903 := by
  unfold expI
  split
  · omega
  · exact powI_bd _ _ _

def gkeys (P Q G : Int) (k : Nat) : List Lit := (List.range k).map fun i : Nat => .int .u64 (expI P Q G (i : Int))
def gset (P Q G : Int) (k : Nat) : DataW Unit := setOf (.lit (.bool true)) (gkeys P Q G k)
theorem gset_zero (P Q G : Int) : gset P Q G 0 = .map [] := by simp [gset, gkeys, setOf]
theorem gset_succ (P Q G : Int) (k : Nat) : gset P Q G (k + 1) = (gset P Q G k).put (.int .u64 (expI P Q G (k : Int))) (.lit (.bool true)) := by
  unfold gset gkeys
  rw [List.range_succ, List.map_append, List.map_cons, List.map_nil, setOf_snoc]
theorem gkeys_lit (P Q G : Int) (k : Nat) : ∀ x ∈ gkeys P Q G k, WideAt.IsKeyLit x := by
  intro x hx
  obtain ⟨i, _, rfl⟩ := List.mem_map.1 hx
  trivial
theorem gset_size {P Q G : Int} (h : Righ P Q G) : ∀ k : Nat, (k : Int) ≤ Q → Maps.size (gset P Q G k) = k
  | 0, _ => by rw [gset_zero]; rfl
  | k + 1, hk => by
    have ih := gset_size h k (by omega)
    have ht : Tidy (gset P Q G k) := tidy_setOf _ _ (gkeys_lit P Q G k)
    have hn : has (gset P Q G k) (.int .u64 (expI P Q G (k : Int))) = false := by
      unfold gset
      rw [has_setOf _ _ _ (gkeys_lit P Q G k), List.any_eq_false]
      intro x hx
      obtain ⟨i, hi, rfl⟩ := List.mem_map.1 hx
      have hi := List.mem_range.1 hi
      have := h.powers (i := (i : Int)) (j := (k : Int)) (by omega) (by omega) (by omega)
      simp [Lit.sameKey, this]
    rw [gset_succ, size_put ht, hn, ih]
    simp

theorem Old.grown {a w w' : World} {b : Nat} (h : Old a w) (hg : w.grownBy w' (some b)) (hb : a.heap.size ≤ b) : Old a w' :=
  ⟨hg.os.trans h.os, hg.output.trans h.output, Nat.le_trans h.size hg.size, fun k hk => (hg.block k (Nat.lt_of_lt_of_le hk h.size) (by simp; omega)).trans (h.block k hk)⟩
theorem Beh.grown {w w1 w2 : World} {P Q G H : Int} {a : Option Addr} {n cap b : Nat} (h : Beh w P Q G H a n cap w1) (hg : w1.grownBy w2 (some b)) (hb : w.heap.size < b) : Beh w P Q G H a n cap w2 := by
  obtain ⟨t, h⟩ := h
  exact ⟨t, h.grown hg (by simp; omega)⟩
theorem Beh.size {w w1 : World} {P Q G H : Int} {a : Option Addr} {n cap : Nat} (h : Beh w P Q G H a n cap w1) : w.heap.size < w1.heap.size := by
  obtain ⟨t, h⟩ := h
  have := h.size
  simp at this
  omega
theorem owns_old {H : Type} {w w' : World} {P : Program} {k : TypeId} {R : Value → Option (DataW H × List MemPlace)} {b n : Nat} {D : DataW H} (h : w.ownsMap P k R b n D) (ho : Old w w') : w'.ownsMap P k R b n D := by
  have hl := h.lt
  obtain ⟨es, clock, hb, r⟩ := h
  exact ⟨es, clock, (ho.block b hl).trans hb, r⟩

end Go.Proofs.Ytljfjjfckepkdad
