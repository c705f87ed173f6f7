/-
  What the proof needs, part 7.
-/
import Derived.Test.YtlnmjbbpenhdbaaGreatKk05
import Derived.Test.YtlnmjbbpenhdbaaGreatKk06
namespace Go.Proofs.YtlnmjbbpenhdbaaGreat
open Tryz
set_option linter.unusedSimpArgs false
set_option linter.unusedVariables false
set_option maxRecDepth 100000
set_option maxHeartbeats 32000000
section
open Go Go.RowKit
def wcnt (l : Nat -> Bool) : Nat -> Nat
 | 0 => 0
 | n + 1 => wcnt l n + (if l n then 0 else 1)
def lset (l : Nat -> Bool) (i : Nat) : Nat -> Bool := fun k => l k || k == i
theorem wcnt_same {l m : Nat -> Bool} : ∀ n, (∀ k, k < n -> l k = m k) -> wcnt l n = wcnt m n
 | 0, _ => rfl
 | n + 1, h => by
  show wcnt l n + _ = wcnt m n + _
  rw [wcnt_same n fun k hk => h k (by omega), h n (by omega)]
theorem wcnt_set {l : Nat -> Bool} {i : Nat} (hi : l i = false) : ∀ n, i < n -> wcnt (lset l i) n + 1 = wcnt l n
 | 0, h => by omega
 | n + 1, h => by
  show wcnt (lset l i) n + (if lset l i n then 0 else 1) + 1 = wcnt l n + (if l n then 0 else 1)
  by_cases hin : i = n
  ·subst hin
   rw [wcnt_same (l := lset l i) (m := l) i fun k hk => by simp [lset]; omega, hi]
   simp [lset]
  ·have := wcnt_set hi n (by omega)
   have e : lset l i n = l n := by simp [lset]; omega
   rw [e]
   omega
theorem wcnt_none {l : Nat -> Bool} : ∀ n, wcnt l n = 0 -> ∀ k, k < n -> l k = true
 | 0, _, k, hk => by omega
 | n + 1, h, k, hk => by
  have h' : wcnt l n + (if l n then 0 else 1) = 0 := h
  by_cases hkn : k = n
  ·subst hkn
   cases hl : l k
   ·rw [hl] at h'; simp at h'
   ·rfl
  ·exact wcnt_none n (by omega) k (by omega)
theorem wcnt_le (l : Nat -> Bool) : ∀ n, wcnt l n <= n
 | 0 => Nat.le_refl _
 | n + 1 => by
  show wcnt l n + (if l n then 0 else 1) <= n + 1
  have := wcnt_le l n
  split <;> omega
def backB (md : Region.Mode) (ops : Array Oper) : Bool := (List.range ops.size).all fun i => match ops[i]? with
 | some o => o.after.all fun e => !Region.binds md e || decide (e.on < i)
 | none => true
theorem zcp {md : Region.Mode} {ops : Array Oper} (h : backB md ops = true) {i : Nat} {o : Oper} (ho : ops[i]? = some o) : ∀ e ∈ o.after, Region.binds md e = true -> e.on < i := by
 have hi := (Array.getElem?_eq_some_iff.1 ho).1
 have h1 := List.all_eq_true.1 h i (List.mem_range.2 hi)
 rw [ho] at h1
 intro e he hb
 have h2 := Array.all_eq_true_iff_forall_mem.1 h1 e he
 rw [hb] at h2
 simpa using h2
section
variable {P : Program} {ops : Array Oper} {Q : Exit -> Act -> World -> Prop} {md : Region.Mode}
theorem least_ready {listed : Array Bool} (hb : backB md ops = true) (hs : listed.size = ops.size) : ∀ i, i < ops.size -> listed.getD i false = false -> Region.ready md ops listed ≠ [] := by
 intro i
 induction i using Nat.strongRecOn with
 | _ i ih =>
  intro hi hl h0
  have ho : ops[i]? = some ops[i] := Array.getElem?_eq_getElem hi
  by_cases hall : ∀ e ∈ ops[i].after, Region.binds md e = true -> listed.getD e.on false = true
  ·have hr : i ∈ Region.ready md ops listed := mem_ready.2 ⟨by simp [hs, hi] at hl ⊢; exact hl, ops[i], ho, hall⟩
   rw [h0] at hr
   cases hr
  ·have : ∃ e, e ∈ ops[i].after /\ Region.binds md e = true /\ listed.getD e.on false = false := by
    refine Classical.byContradiction fun hn => hall fun e he hbd => ?_
    cases hx : listed.getD e.on false
    ·exact absurd ⟨e, he, hbd, hx⟩ hn
    ·rfl
   obtain ⟨e, he, hbd, hx⟩ := this
   have hlt := zcp hb ho e he hbd
   exact ih e.on hlt (by omega) hx h0
theorem zc5 (J : (Nat -> Bool) -> Act -> World -> Prop) (hb : backB md ops = true)
  (step : ∀ l a w i o, ops[i]? = some o -> l i = false -> (∀ e ∈ o.after, Region.binds md e = true -> l e.on = true) -> J l a w -> wpOp P ops Q i (J (lset l i)) a w)
  (fin : ∀ l a w, (∀ i, i < ops.size -> l i = true) -> J l a w -> Q .normal a w) :
  ∀ (fuel : Nat) (listed : Array Bool) (m : Nat -> Bool) (a : Act) (w : World), listed.size = ops.size -> (∀ k, k < ops.size -> m k = listed.getD k false) -> wcnt m ops.size <= fuel -> J m a w -> wpAny P md ops Q fuel listed a w
 | 0, listed, m, a, w, hs, hag, hc, hJ => by
  have hall := wcnt_none ops.size (by omega : wcnt m ops.size = 0)
  refine ⟨?_, fin _ a w hall hJ⟩
  cases hr : Region.ready md ops listed with
  | nil => rfl
  | cons j _ =>
   have hj : j ∈ Region.ready md ops listed := by rw [hr]; simp
   obtain ⟨h0, o, ho, _⟩ := mem_ready.1 hj
   have hlt : j < ops.size := (Array.getElem?_eq_some_iff.1 ho).1
   have h1 : listed.getD j false = true := by rw [<- hag j hlt]; exact hall j hlt
   simp [hs, hlt] at h0 h1
   rw [h0] at h1
   cases h1
 | fuel + 1, listed, m, a, w, hs, hag, hc, hJ => by
  refine ⟨fun h0 => fin _ a w (fun i hi => ?_) hJ, fun j hj => ?_⟩
  ·cases hx : listed.getD i false
   ·exact absurd h0 (least_ready hb hs i hi hx)
   ·rw [hag i hi, hx]
  ·obtain ⟨h0, o, ho, hall⟩ := mem_ready.1 hj
   have hlt : j < ops.size := (Array.getElem?_eq_some_iff.1 ho).1
   have hf : m j = false := by rw [hag j hlt]; simp [hs, hlt] at h0 ⊢; exact h0
   have hagree : ∀ k, k < ops.size -> lset m j k = (listed.setIfInBounds j true).getD k false := fun k hk => by
    by_cases hjk : j = k
    ·subst hjk
     simp [lset, hs, hk]
    ·rw [getD_set_ne false hjk, <- hag k hk]
     have : (k == j) = false := by simp; omega
     simp [lset, this]
   refine wpOp_mono (fun a' w' h => ?_) (step m a w j o ho hf (fun e he hbd => by have := zcp hb ho e he hbd; rw [hag e.on (by omega)]; exact hall e he hbd) hJ)
   refine zc5 J hb step fin fuel (listed.setIfInBounds j true) (lset m j) a' w' (by simp [hs]) hagree ?_ h
   have := wcnt_set (l := m) (i := j) hf ops.size hlt
   omega
def stepsOk (p : Nat -> Oper -> Prop) : Nat -> List Oper -> Prop
 | _, [] => True
 | i, o :: r => p i o /\ stepsOk p (i + 1) r
end
def sinkAt (ops : Array Oper) (n : Nat) : Bool := (List.range n).all fun i => (List.range (n + 1)).any fun j => decide (i < j) && match ops[j]? with
 | some o => o.after.any fun e => Region.binds .any e && e.on == i
 | none => false
theorem sinkAt_spec {ops : Array Oper} {n : Nat} (h : sinkAt ops n = true) {i : Nat} (hi : i < n) : ∃ j oj, i < j /\ j <= n /\ ops[j]? = some oj /\ ∃ e ∈ oj.after, Region.binds .any e = true /\ e.on = i := by
 have h1 := List.all_eq_true.1 h i (List.mem_range.2 hi)
 obtain ⟨j, hj, h2⟩ := List.any_eq_true.1 h1
 simp only [Bool.and_eq_true, decide_eq_true_eq] at h2
 obtain ⟨h3, h4⟩ := h2
 cases ho : ops[j]? with
 | none => rw [ho] at h4; cases h4
 | some oj =>
  rw [ho] at h4
  obtain ⟨e, he, hb⟩ := Array.any_eq_true'.1 h4
  simp only [Bool.and_eq_true, beq_iff_eq] at hb
  exact ⟨j, oj, h3, by have := List.mem_range.1 hj; omega, ho, e, he, hb.1, hb.2⟩
def zed (ops : Array Oper) (l : Nat -> Bool) : Prop := ∀ j oj, ops[j]? = some oj -> l j = true -> ∀ e ∈ oj.after, Region.binds .any e = true -> l e.on = true
theorem zdZ {ops : Array Oper} {l : Nat -> Bool} {i : Nat} {o : Oper} (h : zed ops l) (ho : ops[i]? = some o) (hpre : ∀ e ∈ o.after, Region.binds .any e = true -> l e.on = true) : zed ops (lset l i) := by
 intro j oj hj hl e he hb
 by_cases hij : j = i
 ·subst hij
  cases hj.symm.trans ho
  simp [lset, hpre e he hb]
 ·have : l j = true := by simpa [lset, hij] using hl
  simp [lset, h j oj hj this e he hb]
theorem sink_all {ops : Array Oper} {n : Nat} {l : Nat -> Bool} {o : Oper} (hs : sinkAt ops n = true) (hc : zed ops l) (ho : ops[n]? = some o) (hpre : ∀ e ∈ o.after, Region.binds .any e = true -> l e.on = true) : ∀ (d i : Nat), n - i = d -> i < n -> l i = true := by
 intro d
 induction d using Nat.strongRecOn with
 | _ d ih =>
  intro i hd hi
  obtain ⟨j, oj, h1, h2, hj, e, he, hb, hon⟩ := sinkAt_spec hs hi
  rw [<- hon]
  by_cases hjn : j = n
  ·subst hjn
   cases hj.symm.trans ho
   exact hpre e he hb
  ·exact hc j oj hj (ih (n - j) (by omega) j rfl (by omega)) e he hb
end
section
open Go.RowKit
def Rws (w : World) (base : Nat) (v : Value) (nb : Nat) (L : Nat -> Nat) (B : NN) : Prop :=
 ∃ (BA : Nat -> Option Addr) (C : Nat -> Nat), w.ownsRow base 29 1 v nb ((List.range nb).map fun j => Value.slice (BA j) (L j) (C j)) /\ ∀ j, j < nb -> Nums w base (.slice (BA j) (L j) (C j)) (L j) (B j)
theorem Rws.mono {w : World} {base base' nb : Nat} {v : Value} {L : Nat -> Nat} {B : NN} (h : Rws w base v nb L B) (hb : base' <= base) : Rws w base' v nb L B := by
 obtain ⟨BA, C, h1, h2⟩ := h
 exact ⟨BA, C, h1.mono hb, fun j hj => (h2 j hj).mono hb⟩
theorem Rws.below {w : World} {base nb : Nat} {v : Value} {L : Nat -> Nat} {B : NN} (h : Rws w base v nb L B) {p : Addr} (hp : p.block < base) (u : Value) : Rws (w.setCell p u) base v nb L B := by
 obtain ⟨BA, C, h1, h2⟩ := h
 exact ⟨BA, C, ownsRow_setCell_below h1 hp u, fun j hj => ownsRow_setCell_below (h2 j hj) hp u⟩
theorem Rws.lists {w : World} {base nb : Nat} {v : Value} {L : Nat -> Nat} {B : NN} (h : Rws w base v nb L B) (hB : ∀ j, j < nb -> ∀ i, i < L j -> U64 (B j i)) :
  ∃ (b : OA) (c : Nat) (BA : Nat -> Option Addr) (C : Nat -> Nat), v = .slice b nb c /\ nb <= c /\ c <= 9223372036854775807 /\ ListsIn w b nb BA L C B := by
 obtain ⟨BA, C, h1, h2⟩ := h
 have h1' := h1
 rcases h1.2 with ⟨rfl, rfl⟩ | ⟨g, cap, cur, rfl, hb, hg, hc, hm, _⟩
 ·exact ⟨none, 0, BA, C, rfl, Nat.le_refl _, by omega, Or.inl rfl⟩
 ·refine ⟨some ⟨g, 0, none⟩, cap, BA, C, rfl, hc, by unfold maxLen at hm; omega, Or.inr ⟨g, 0, rfl, (Array.getElem?_eq_some_iff.1 hg).1, fun j hj => ?_⟩⟩
  obtain ⟨_, _, e, q1, q2, hf⟩ := (h2 j hj).facs2 (hB j hj)
  cases e
  refine ⟨?_, q1, q2, hf⟩
  rw [Nat.zero_add, World.ownsRow.cellAt h1' j (by omega)]
  simp [List.getElem?_map, List.getElem?_range hj]
theorem zbZ (w : World) (base n : Nat) (cs : List Value) (F : NI) (hb : base <= w.heap.size) (hn : n <= 1000) (h : cs = (List.range n).map fun i => Value.int .u64 (F i)) : Nums (w.alloc (.cells cs.toArray 22)) base (.slice (some ⟨w.heap.size, 0, none⟩) n n) n F := by
 have := World.ownsRow_lit (base := base) (e := 22) (size := 1) w cs.toArray n hb (by unfold maxLen; omega) (by subst h; simp)
 unfold Nums
 rw [<- h]
 simpa using this
def GivesC (w : World) (nt : Nat) (T : NI) (nb : Nat) (L : Nat -> Nat) (B : NN) (r : Ending) (w' : World) : Prop :=
 Old w w' /\ ∃ v u, r = .returned (.agg #[v, u]) /\ Nums w' w.heap.size v nt T /\ Rws w' w.heap.size u nb L B
def MadeIn (w : World) (nt : Nat) (T : NI) (nb : Nat) (L : Nat -> Nat) (B : NN) (r : Ending) (w' : World) : Prop :=
 ∃ bt ct bb cb BA C, r = .returned (cv bt nt ct bb nb cb) /\ Old w w' /\ ClaimIn w' bt nt ct T bb nb cb BA L C B
def two7 (x y : Int) : Nat -> Int | 0 => x | _ => y
def tri7 (x y z : Int) : Nat -> Int | 0 => x | 1 => y | _ => z
theorem u64_two {x y : Int} (hx : U64 x) (hy : U64 y) : ∀ j, U64 (two7 x y j)
 | 0 => hx
 | _ + 1 => hy
theorem lt2 {p : Nat -> Prop} (h0 : p 0) (h1 : p 1) : ∀ j, j < 2 -> p j
 | 0, _ => h0
 | 1, _ => h1
end
end Go.Proofs.YtlnmjbbpenhdbaaGreat
