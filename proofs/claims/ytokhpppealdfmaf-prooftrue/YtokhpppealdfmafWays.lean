/-
  Regions whose order is drawn, by an invariant: whatever comes up next keeps it.
-/
import Derived.Deep.RegionHeld3
import Derived.RowKit
import Derived.Below
namespace Go.Proofs.Ytokhpppealdfmaf
open Go Go.RowKit

/-- How many of the first n have not come up. -/
def wcnt (l : Nat → Bool) : Nat → Nat
  | 0 => 0
  | n + 1 => wcnt l n + (if l n then 0 else 1)
def lset (l : Nat → Bool) (i : Nat) : Nat → Bool := fun k => l k || k == i
theorem wcnt_same {l m : Nat → Bool} : ∀ n, (∀ k, k < n → l k = m k) → wcnt l n = wcnt m n
  | 0, _ => rfl
  | n + 1, h => by
    show wcnt l n + _ = wcnt m n + _
    rw [wcnt_same n fun k hk => h k (by omega), h n (by omega)]
theorem wcnt_set {l : Nat → Bool} {i : Nat} (hi : l i = false) : ∀ n, i < n → wcnt (lset l i) n + 1 = wcnt l n
  | 0, h => by omega
  | n + 1, h => by
    show wcnt (lset l i) n + (if lset l i n then 0 else 1) + 1 = wcnt l n + (if l n then 0 else 1)
    by_cases hin : i = n
    · subst hin
      rw [wcnt_same (l := lset l i) (m := l) i fun k hk => by simp [lset]; omega, hi]
      simp [lset]
    · have := wcnt_set hi n (by omega)
      have e : lset l i n = l n := by simp [lset]; omega
      rw [e]
      omega
theorem wcnt_none {l : Nat → Bool} : ∀ n, wcnt l n = 0 → ∀ k, k < n → l k = true
  | 0, _, k, hk => by omega
  | n + 1, h, k, hk => by
    have h' : wcnt l n + (if l n then 0 else 1) = 0 := h
    by_cases hkn : k = n
    · subst hkn
      cases hl : l k
      · rw [hl] at h'; simp at h'
      · rfl
    · exact wcnt_none n (by omega) k (by omega)
theorem wcnt_le (l : Nat → Bool) : ∀ n, wcnt l n ≤ n
  | 0 => Nat.le_refl _
  | n + 1 => by
    show wcnt l n + (if l n then 0 else 1) ≤ n + 1
    have := wcnt_le l n
    split <;> omega

/-- Each operation waits for earlier ones alone. -/
def backB (md : Region.Mode) (ops : Array Oper) : Bool := (List.range ops.size).all fun i => match ops[i]? with
  | some o => o.after.all fun e => !Region.binds md e || decide (e.on < i)
  | none => true
theorem backB_spec {md : Region.Mode} {ops : Array Oper} (h : backB md ops = true) {i : Nat} {o : Oper} (ho : ops[i]? = some o) : ∀ e ∈ o.after, Region.binds md e = true → e.on < i := by
  have hi := (Array.getElem?_eq_some_iff.1 ho).1
  have h1 := List.all_eq_true.1 h i (List.mem_range.2 hi)
  rw [ho] at h1
  intro e he hb
  have h2 := Array.all_eq_true_iff_forall_mem.1 h1 e he
  rw [hb] at h2
  simpa using h2

section
variable {P : Program} {ops : Array Oper} {Q : Exit → Act → World → Prop} {md : Region.Mode}

theorem least_ready {listed : Array Bool} (hb : backB md ops = true) (hs : listed.size = ops.size) : ∀ i, i < ops.size → listed.getD i false = false → Region.ready md ops listed ≠ [] := by
  intro i
  induction i using Nat.strongRecOn with
  | _ i ih =>
    intro hi hl h0
    have ho : ops[i]? = some ops[i] := Array.getElem?_eq_getElem hi
    by_cases hall : ∀ e ∈ ops[i].after, Region.binds md e = true → listed.getD e.on false = true
    · have hr : i ∈ Region.ready md ops listed := mem_ready.2 ⟨by simp [hs, hi] at hl ⊢; exact hl, ops[i], ho, hall⟩
      rw [h0] at hr
      cases hr
    · have : ∃ e, e ∈ ops[i].after ∧ Region.binds md e = true ∧ listed.getD e.on false = false := by
        refine Classical.byContradiction fun hn => hall fun e he hbd => ?_
        cases hx : listed.getD e.on false
        · exact absurd ⟨e, he, hbd, hx⟩ hn
        · rfl
      obtain ⟨e, he, hbd, hx⟩ := this
      have hlt := backB_spec hb ho e he hbd
      exact ih e.on hlt (by omega) hx h0

/-- **Whatever comes up keeps J, and J of all is enough.** -/
theorem wpAny_ways (J : (Nat → Bool) → Act → World → Prop) (hb : backB md ops = true)
    (step : ∀ l a w i o, ops[i]? = some o → l i = false → (∀ e ∈ o.after, Region.binds md e = true → l e.on = true) → J l a w → wpOp P ops Q i (J (lset l i)) a w)
    (fin : ∀ l a w, (∀ i, i < ops.size → l i = true) → J l a w → Q .normal a w) :
    ∀ (fuel : Nat) (listed : Array Bool) (m : Nat → Bool) (a : Act) (w : World), listed.size = ops.size → (∀ k, k < ops.size → m k = listed.getD k false) → wcnt m ops.size ≤ fuel → J m a w → wpAny P md ops Q fuel listed a w
  | 0, listed, m, a, w, hs, hag, hc, hJ => by
    have hall := wcnt_none ops.size (by omega : wcnt m ops.size = 0)
    refine ⟨?_, fin _ a w hall hJ⟩
    cases hr : Region.ready md ops listed with
    | nil => rfl
    | cons j _ =>
      have hj : j ∈ Region.ready md ops listed := by rw [hr]; simp
      obtain ⟨h0, o, ho, _⟩ := mem_ready.1 hj
      have hlt : j < ops.size := (Array.getElem?_eq_some_iff.1 ho).1
      have h1 : listed.getD j false = true := by rw [← hag j hlt]; exact hall j hlt
      simp [hs, hlt] at h0 h1
      rw [h0] at h1
      cases h1
  | fuel + 1, listed, m, a, w, hs, hag, hc, hJ => by
    refine ⟨fun h0 => fin _ a w (fun i hi => ?_) hJ, fun j hj => ?_⟩
    · cases hx : listed.getD i false
      · exact absurd h0 (least_ready hb hs i hi hx)
      · rw [hag i hi, hx]
    · obtain ⟨h0, o, ho, hall⟩ := mem_ready.1 hj
      have hlt : j < ops.size := (Array.getElem?_eq_some_iff.1 ho).1
      have hf : m j = false := by rw [hag j hlt]; simp [hs, hlt] at h0 ⊢; exact h0
      have hagree : ∀ k, k < ops.size → lset m j k = (listed.setIfInBounds j true).getD k false := fun k hk => by
        by_cases hjk : j = k
        · subst hjk
          simp [lset, hs, hk]
        · rw [getD_set_ne false hjk, ← hag k hk]
          have : (k == j) = false := by simp; omega
          simp [lset, this]
      refine wpOp_mono (fun a' w' h => ?_) (step m a w j o ho hf (fun e he hbd => by have := backB_spec hb ho e he hbd; rw [hag e.on (by omega)]; exact hall e he hbd) hJ)
      refine wpAny_ways J hb step fin fuel (listed.setIfInBounds j true) (lset m j) a' w' (by simp [hs]) hagree ?_ h
      have := wcnt_set (l := m) (i := j) hf ops.size hlt
      omega

/-- One operation's step keeps J. -/
def StepOk (P : Program) (ops : Array Oper) (Q : Exit → Act → World → Prop) (J : (Nat → Bool) → Act → World → Prop) (i : Nat) (o : Oper) : Prop :=
  ∀ (l : Nat → Bool) (a : Act) (w : World) (K : Act → World → Prop), l i = false → (∀ e ∈ o.after, Region.binds .any e = true → l e.on = true) → J l a w → Hid (∀ a' w', J (lset l i) a' w' → K a' w') →
    if Region.wanted o (yielded ops a.tmps) then o.wp P a w K Q else K (a.put o.dst undef) w
def stepsOk (p : Nat → Oper → Prop) : Nat → List Oper → Prop
  | _, [] => True
  | i, o :: r => p i o ∧ stepsOk p (i + 1) r
theorem stepsOk.cons {p : Nat → Oper → Prop} {i : Nat} {o : Oper} {r : List Oper} (h : p i o) (k : stepsOk p (i + 1) r) : stepsOk p i (o :: r) := ⟨h, k⟩
theorem stepsOk_at {p : Nat → Oper → Prop} : ∀ (l : List Oper) (k i : Nat) (o : Oper), stepsOk p k l → l[i]? = some o → p (k + i) o
  | [], _, _, _, _, h => by simp at h
  | x :: r, k, 0, o, hs, h => by
    simp at h
    subst h
    exact hs.1
  | x :: r, k, i + 1, o, hs, h => by
    have := stepsOk_at r (k + 1) i o hs.2 (by simpa using h)
    rwa [show k + 1 + i = k + (i + 1) by omega] at this

/-- A region that draws its order, by an invariant from its beginning on. -/
theorem wp_region_ways {id : Nat} {l : List Oper} {a : Act} {w : World} (J : (Nat → Bool) → Act → World → Prop) (hm : P.follows .mixedOrders = true) (hb : backB .any l.toArray = true)
    (start : J (fun _ => false) a w.drew)
    (step : stepsOk (StepOk P l.toArray Q J) 0 l)
    (fin : ∀ m a w, (∀ i, i < l.toArray.size → m i = true) → J m a w → Q .normal a w) : (Code.region id l.toArray true).wp P Q a w :=
  wp_region_any hm (wpAny_ways J hb (fun m a w i o ho hf hpre hJ => by
      have h := stepsOk_at l 0 i o step (by simpa using ho)
      rw [Nat.zero_add] at h
      have h2 := h m a w (J (lset m i)) hf hpre hJ (fun _ _ h => h)
      unfold wpOp
      rw [ho]
      dsimp only
      split
      · rename_i hw; rw [if_pos hw] at h2; exact .inl h2
      · rename_i hw; rw [if_neg hw] at h2; exact h2) fin l.toArray.size _ (fun _ => false) a _ (by simp) (fun k hk => by simp at hk; simp [hk]) (wcnt_le _ _) start)
end

/-- Each of the first n is waited for by a later one, up to n. -/
def sinkAt (ops : Array Oper) (n : Nat) : Bool := (List.range n).all fun i => (List.range (n + 1)).any fun j => decide (i < j) && match ops[j]? with
  | some o => o.after.any fun e => Region.binds .any e && e.on == i
  | none => false
theorem sinkAt_spec {ops : Array Oper} {n : Nat} (h : sinkAt ops n = true) {i : Nat} (hi : i < n) : ∃ j oj, i < j ∧ j ≤ n ∧ ops[j]? = some oj ∧ ∃ e ∈ oj.after, Region.binds .any e = true ∧ e.on = i := by
  have h1 := List.all_eq_true.1 h i (List.mem_range.2 hi)
  obtain ⟨j, hj, h2⟩ := List.any_eq_true.1 h1
  simp only [Bool.and_eq_true, decide_eq_true_eq] at h2
  obtain ⟨h3, h4⟩ := h2
  cases ho : ops[j]? with
  | none => rw [ho] at h4; cases h4
  | some oj =>
    rw [ho] at h4
    obtain ⟨e, he, hb⟩ := Array.any_eq_true'.1 h4
    simp only [Bool.and_eq_true, beq_iff_eq] at hb
    exact ⟨j, oj, h3, by have := List.mem_range.1 hj; omega, ho, e, he, hb.1, hb.2⟩
def closedL (ops : Array Oper) (l : Nat → Bool) : Prop := ∀ j oj, ops[j]? = some oj → l j = true → ∀ e ∈ oj.after, Region.binds .any e = true → l e.on = true
theorem closedL_set {ops : Array Oper} {l : Nat → Bool} {i : Nat} {o : Oper} (h : closedL ops l) (ho : ops[i]? = some o) (hpre : ∀ e ∈ o.after, Region.binds .any e = true → l e.on = true) : closedL ops (lset l i) := by
  intro j oj hj hl e he hb
  by_cases hij : j = i
  · subst hij
    cases hj.symm.trans ho
    simp [lset, hpre e he hb]
  · have : l j = true := by simpa [lset, hij] using hl
    simp [lset, h j oj hj this e he hb]
theorem sink_all {ops : Array Oper} {n : Nat} {l : Nat → Bool} {o : Oper} (hs : sinkAt ops n = true) (hc : closedL ops l) (ho : ops[n]? = some o) (hpre : ∀ e ∈ o.after, Region.binds .any e = true → l e.on = true) : ∀ (d i : Nat), n - i = d → i < n → l i = true := by
  intro d
  induction d using Nat.strongRecOn with
  | _ d ih =>
    intro i hd hi
    obtain ⟨j, oj, h1, h2, hj, e, he, hb, hon⟩ := sinkAt_spec hs hi
    rw [← hon]
    by_cases hjn : j = n
    · subst hjn
      cases hj.symm.trans ho
      exact hpre e he hb
    · exact hc j oj hj (ih (n - j) (by omega) j rfl (by omega)) e he hb

/-- **A region that draws its order: its head by an invariant, then its last operation.** -/
theorem wp_region_head {P : Program} {Q : Exit → Act → World → Prop} {id : Nat} {ls : List Oper} {a : Act} {w : World} (n : Nat) (o : Oper) (hlast : ls.toArray[n]? = some o) (hlen : ls.toArray.size = n + 1) (J : (Nat → Bool) → Act → World → Prop) (hm : P.follows .mixedOrders = true) (hb : backB .any ls.toArray = true) (hs : sinkAt ls.toArray n = true)
    (start : J (fun _ => false) a w.drew)
    (step : stepsOk (StepOk P ls.toArray Q J) 0 (ls.take n))
    (fin : ∀ m a w (K : Act → World → Prop), (∀ i, i < n → m i = true) → J m a w → Hid (∀ a' w', Q .normal a' w' → K a' w') → if Region.wanted o (yielded ls.toArray a.tmps) then o.wp P a w K Q else K (a.put o.dst undef) w) : (Code.region id ls.toArray true).wp P Q a w := by
  have hsz : ∀ i, i < ls.toArray.size → i ≤ n := fun i hi => by omega
  let J2 : (Nat → Bool) → Act → World → Prop := fun l a w => closedL ls.toArray l ∧ (l n = false → J l a w) ∧ (l n = true → (∀ i, i ≤ n → l i = true) ∧ Q .normal a w)
  have hst0 : J2 (fun _ => false) a w.drew := ⟨(fun _ _ _ h => by cases h), (fun _ => start), (fun h => by cases h)⟩
  refine wp_region_any hm (wpAny_ways J2 hb ?_ ?_ ls.toArray.size _ (fun _ => false) a _ (by simp) (fun k hk => by simp at hk; simp [hk]) (wcnt_le _ _) hst0)
  · intro l a w i o' ho hf hpre hJ
    obtain ⟨hcl, h0, h1⟩ := hJ
    have hin : i ≤ n := hsz i (Array.getElem?_eq_some_iff.1 ho).1
    have hln : l n = false := by
      cases hx : l n
      · rfl
      · have := (h1 hx).1 i hin
        rw [hf] at this
        cases this
    have hcs := closedL_set hcl ho hpre
    unfold wpOp
    rw [ho]
    dsimp only
    by_cases hi : i < n
    · have ho2 : (ls.take n)[i]? = some o' := by rw [List.getElem?_take_of_lt hi]; simpa using ho
      have hst := stepsOk_at (ls.take n) 0 i o' step ho2
      rw [Nat.zero_add] at hst
      have hne : lset l i n = false := by
        have : (n == i) = false := by simp; omega
        simp [lset, hln, this]
      have h2 := hst l a w (J2 (lset l i)) hf hpre (h0 hln) (fun a' w' h => ⟨hcs, (fun _ => h), (fun hx => by rw [hne] at hx; cases hx)⟩)
      split
      · rename_i hw; rw [if_pos hw] at h2; exact .inl h2
      · rename_i hw; rw [if_neg hw] at h2; exact h2
    · have hi' : i = n := by omega
      subst hi'
      cases hlast.symm.trans ho
      have hall : ∀ k, k < i → l k = true := fun k hk => sink_all hs hcl hlast hpre _ k rfl hk
      have hall2 : ∀ k, k ≤ i → lset l i k = true := fun k hk => by
        by_cases hk2 : k = i
        · simp [lset, hk2]
        · simp [lset, hall k (by omega)]
      have h2 := fin l a w (J2 (lset l i)) hall (h0 hln) (fun a' w' h => ⟨hcs, (fun hx => by rw [hall2 _ (Nat.le_refl _)] at hx; cases hx), (fun _ => ⟨hall2, h⟩)⟩)
      split
      · rename_i hw; rw [if_pos hw] at h2; exact .inl h2
      · rename_i hw; rw [if_neg hw] at h2; exact h2
  · intro l a w hall hJ
    exact (hJ.2.2 (hall n (by omega))).2

/-- What stands in the slots behind those that have come up. -/
def upd (t : Nat → Value) (d : Nat) (v : Value) : Nat → Value := fun k => if k = d then v else t k
def Fac (R : World → World → Prop) (W : World) (fr : (Nat → Value) → Act) (d : Nat) (Fct : Nat → Value → World → Prop) : (Nat → Bool) → Act → World → Prop := fun l a w => R W w ∧ ∃ t : Nat → Value, a = fr t ∧ ∀ k, l k = true → Fct k (t (d + k)) w
theorem Fac.keep {R : World → World → Prop} {W : World} {fr : (Nat → Value) → Act} {d : Nat} {Fct : Nat → Value → World → Prop} {l : Nat → Bool} {a' : Act} {w w' : World} {t : Nat → Value} (i : Nat) (v : Value) (ha : a' = fr (upd t (d + i) v)) (hf : ∀ k, l k = true → Fct k (t (d + k)) w) (hm : ∀ k u, Fct k u w → Fct k u w') (hR : R W w') (hv : Fct i v w') : Fac R W fr d Fct (lset l i) a' w' := by
  refine ⟨hR, upd t (d + i) v, ha, fun k hk => ?_⟩
  by_cases hki : k = i
  · subst hki
    simpa [upd] using hv
  · have h1 : l k = true := by simpa [lset, hki] using hk
    have h2 : upd t (d + i) v (d + k) = t (d + k) := by unfold upd; rw [if_neg (by omega)]
    rw [h2]
    exact hm k _ (hf k h1)

/-- The same, with letters that are found on the way, slots wherever they are, and facts that may fall away behind a certain operation. -/
def FacS {A : Type} (W : World) (R : World → World → Prop) (fr : (Nat → Value) → Act) (n : Nat) (dst : Nat → Nat) (Fct : (Nat → Bool) → A → Nat → Value → World → Prop) : (Nat → Bool) → Act → World → Prop := fun l a w => R W w ∧ ∃ (x : A) (t : Nat → Value), a = fr t ∧ ∀ k, k < n → l k = true → Fct l x k (t (dst k)) w
theorem FacS.keep {A : Type} {W : World} {R : World → World → Prop} {fr : (Nat → Value) → Act} {n : Nat} {dst : Nat → Nat} {Fct : (Nat → Bool) → A → Nat → Value → World → Prop} {l : Nat → Bool} {a' : Act} {w w' : World} {t : Nat → Value} {x : A} (hd : ∀ k, k < n → ∀ i, i < n → k ≠ i → dst k ≠ dst i) (i : Nat) (hi : i < n) (v : Value) (x' : A) (ha : a' = fr (upd t (dst i) v)) (hf : ∀ k, k < n → l k = true → Fct l x k (t (dst k)) w) (hm : ∀ k u, k ≠ i → l k = true → Fct l x k u w → Fct (lset l i) x' k u w') (hR : R W w') (hv : Fct (lset l i) x' i v w') : FacS W R fr n dst Fct (lset l i) a' w' := by
  refine ⟨hR, x', upd t (dst i) v, ha, fun k hk hl => ?_⟩
  by_cases hki : k = i
  · subst hki
    simpa [upd] using hv
  · have h1 : l k = true := by simpa [lset, hki] using hl
    have h2 : upd t (dst i) v (dst k) = t (dst k) := by unfold upd; rw [if_neg (hd k hk i hi hki)]
    rw [h2]
    exact hm k _ hki h1 (hf k hk h1)
theorem lset_at {l : Nat → Bool} {i k : Nat} (h : k ≠ i) : lset l i k = l k := by simp [lset, h]
theorem lset_self {l : Nat → Bool} {i : Nat} : lset l i i = true := by simp [lset]

end Go.Proofs.Ytokhpppealdfmaf
