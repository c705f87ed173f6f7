/-
  What the proof needs, part 14.
-/
import Derived.Test.YtlnmjbbpenhdbaaGreatKp07
namespace Go.Proofs.YtlnmjbbpenhdbaaGreat
open Tryz
set_option linter.unusedSimpArgs false
set_option linter.unusedVariables false
set_option maxRecDepth 100000
set_option maxHeartbeats 32000000
section
open Go Go.RowKit
class OldR (Rl : World -> World -> Prop) : Prop where
 go : ∀ w w', Old w w' -> Rl w w'
instance : OldR Old := ⟨fun _ _ h => h⟩
inductive Ent2 (Rl : World -> World -> Prop)
 | k (v : Value)
 | u (F : Value -> World -> Prop) (hF : ∀ v w w', F v w -> Rl w w' -> F v w')
 | d (js : List Nat) (F : List Value -> Value -> World -> Prop) (hF : ∀ l v w w', F l v w -> Old w w' -> F l v w')
def Ent2.ok {Rl : World -> World -> Prop} : Ent2 Rl -> (Nat -> Value) -> Value -> World -> Prop
 | .k v, _, x, _ => x = v
 | .u F _, _, x, w => F x w
 | .d js F _, t, x, w => F (js.map t) x w
def Ent2.val {Rl : World -> World -> Prop} : Ent2 Rl -> Value -> Value
 | .k v, _ => v
 | .u _ _, x => x
 | .d _ _ _, x => x
def Ent2.js {Rl : World -> World -> Prop} : Ent2 Rl -> List Nat
 | .d js _ _ => js
 | _ => []
theorem Ent2.ok_val {Rl : World -> World -> Prop} : ∀ (e : Ent2 Rl) {t : Nat -> Value} {x : Value} {w : World}, e.ok t x w -> e.val x = x
 | .k _, _, _, _, h => h.symm
 | .u _ _, _, _, _, _ => rfl
 | .d _ _ _, _, _, _, _ => rfl
def Ent2.isD {Rl : World -> World -> Prop} : Ent2 Rl -> Bool
 | .d _ _ _ => true
 | _ => false
theorem Ent2.old {Rl : World -> World -> Prop} [OldR Rl] : ∀ (e : Ent2 Rl) {t : Nat -> Value} {x : Value} {w w' : World}, e.ok t x w -> Old w w' -> e.ok t x w'
 | .k _, _, _, _, _, h, _ => h
 | .u _ hF, _, _, _, _, h, ho => hF _ _ _ h (OldR.go _ _ ho)
 | .d _ _ hF, _, _, _, _, h, ho => hF _ _ _ _ h ho
theorem Ent2.rl {Rl : World -> World -> Prop} : ∀ (e : Ent2 Rl) {t : Nat -> Value} {x : Value} {w w' : World}, e.isD = false -> e.ok t x w -> Rl w w' -> e.ok t x w'
 | .k _, _, _, _, _, _, h, _ => h
 | .u _ hF, _, _, _, _, _, h, ho => hF _ _ _ h ho
 | .d _ _ _, _, _, _, _, hd, _, _ => by cases hd
theorem Ent2.same {Rl : World -> World -> Prop} : ∀ (e : Ent2 Rl) {t t' : Nat -> Value} {x : Value} {w : World}, e.ok t x w -> (∀ j, j ∈ e.js -> t' j = t j) -> e.ok t' x w
 | .k _, _, _, _, _, h, _ => h
 | .u _ _, _, _, _, _, h, _ => h
 | .d js F _, t, t', x, w, h, hj => by
  show F (js.map t') x w
  rw [List.map_congr_left (f := t') (g := t) (l := js) fun j h => hj j h]
  exact h
def okAt2 {Rl : World -> World -> Prop} (E : List (Ent2 Rl)) (k : Nat) (t : Nat -> Value) (w : World) : Prop :=
 match E[k]? with
 | some e => e.ok t (t k) w
 | none => True
def jsAt {Rl : World -> World -> Prop} (E : List (Ent2 Rl)) (k : Nat) : List Nat :=
 match E[k]? with
 | some e => e.js
 | none => []
theorem okAt2_old {Rl : World -> World -> Prop} [OldR Rl] {E : List (Ent2 Rl)} {k : Nat} {t : Nat -> Value} {w w' : World} (h : okAt2 E k t w) (ho : Old w w') : okAt2 E k t w' := by
 unfold okAt2 at h ⊢
 split
 ·rename_i e he; rw [he] at h; exact e.old h ho
 ·trivial
def onlyD {Rl : World -> World -> Prop} (E : List (Ent2 Rl)) (i : Nat) : Bool := (List.range E.length).all fun k => k == i || match E[k]? with | some e => !e.isD | none => true
def Keeps2 {Rl : World -> World -> Prop} (E : List (Ent2 Rl)) (i : Nat) (w w' : World) : Prop := Old w w' ∨ (Rl w w' /\ onlyD E i = true)
theorem okAt2_keeps {Rl : World -> World -> Prop} [OldR Rl] {E : List (Ent2 Rl)} {i k : Nat} (hki : k ≠ i) {t : Nat -> Value} {w w' : World} (h : okAt2 E k t w) (ho : Keeps2 E i w w') : okAt2 E k t w' := by
 rcases ho with ho | ⟨ho, hd⟩
 ·exact okAt2_old h ho
 ·unfold okAt2 at h ⊢
  split
  ·rename_i e he
   rw [he] at h
   have hlt : k < E.length := (List.getElem?_eq_some_iff.1 he).1
   unfold onlyD at hd
   simp only [List.all_eq_true, List.mem_range, Bool.or_eq_true, beq_iff_eq] at hd
   have := (hd k hlt).resolve_left hki
   rw [he] at this
   exact e.rl (by simpa using this) h ho
  ·trivial
theorem okAt2_same {Rl : World -> World -> Prop} {E : List (Ent2 Rl)} {k : Nat} {t t' : Nat -> Value} {w : World} (h : okAt2 E k t w) (hk : t' k = t k) (hj : ∀ j, j ∈ jsAt E k -> t' j = t j) : okAt2 E k t' w := by
 unfold okAt2 jsAt at *
 split
 ·rename_i e he; rw [he] at h hj; rw [hk]; exact e.same h hj
 ·trivial
def depChk {Rl : World -> World -> Prop} (ops : List Oper) (E : List (Ent2 Rl)) : Bool := (List.range E.length).all fun i => match ops[i]? with | some o => (jsAt E i).all fun j => needs o j | none => true
def fill2 {Rl : World -> World -> Prop} : List Oper -> List (Ent2 Rl) -> (Nat -> Value) -> Nat -> List Value -> List Value
 | o :: os, e :: es, t, i, L => fill2 os es t (i + 1) (match o.dst with | some d => L.set d (e.val (t i)) | none => L)
 | _, _, _, _, L => L
theorem zb2 {Rl : World -> World -> Prop} (s : Nat) : ∀ (os : List Oper) (es : List (Ent2 Rl)) (t : Nat -> Value) (i : Nat) (L : List Value), (∀ k o, k < es.length -> os[k]? = some o -> o.dst ≠ some s) -> (fill2 os es t i L)[s]? = L[s]?
 | [], _, _, _, _, _ => by simp [fill2]
 | _ :: _, [], _, _, _, _ => by simp [fill2]
 | o :: os, e :: es, t, i, L, h => by
  unfold fill2
  rw [zb2 s os es t (i + 1) _ fun k o hk ho => h (k + 1) o (by simp; omega) (by simpa using ho)]
  have h0 := h 0 o (by simp) rfl
  split
  ·rename_i d hd
   rw [List.getElem?_set_ne]
   intro hds
   subst hds
   exact h0 hd
  ·rfl
theorem fill_atY {Rl : World -> World -> Prop} (s : Nat) : ∀ (os : List Oper) (es : List (Ent2 Rl)) (t : Nat -> Value) (i : Nat) (L : List Value) (k : Nat) (o : Oper) (e : Ent2 Rl), os[k]? = some o -> es[k]? = some e -> o.dst = some s -> s < L.length -> (∀ j p, k < j -> j < es.length -> os[j]? = some p -> p.dst ≠ some s) -> (fill2 os es t i L)[s]? = some (e.val (t (i + k)))
 | [], _, _, _, _, _, _, _, h, _, _, _, _ => by simp at h
 | _ :: _, [], _, _, _, _, _, _, _, h, _, _, _ => by simp at h
 | o :: os, e :: es, t, i, L, 0, o', e', ho, he, hd, hs, hj => by
  simp at ho he
  subst ho
  subst he
  unfold fill2
  rw [hd, zb2 s os es t (i + 1) _ fun k p hk hp => hj (k + 1) p (by omega) (by simp; omega) (by simpa using hp)]
  simp [hs]
 | o :: os, e :: es, t, i, L, k + 1, o', e', ho, he, hd, hs, hj => by
  unfold fill2
  have := fill_atY s os es t (i + 1) (match o.dst with | some d => L.set d (e.val (t i)) | none => L) k o' e' (by simpa using ho) (by simpa using he) hd (by split <;> simpa using hs) fun j p h1 h2 hp => hj (j + 1) p (by omega) (by simp; omega) (by simpa using hp)
  rw [this, show i + 1 + k = i + (k + 1) by omega]
def zfp {Rl : World -> World -> Prop} (E : List (Ent2 Rl)) (o : Oper) : Option Bool :=
 match o.guard with
 | none => some true
 | some (j, b) => match E[j]? with
  | some (.k (.bool c)) => some (c == b)
  | _ => none
def ResT2 {Rl : World -> World -> Prop} (E : List (Ent2 Rl)) (i : Nat) (R : World -> Prop) (e : Ent2 Rl) (t : Nat -> Value) (wx : World) (v : Value) (w' : World) : Prop := R w' /\ Keeps2 E i wx w' /\ e.ok t v w'
def PostT2 {Rl : World -> World -> Prop} (P : Program) (E : List (Ent2 Rl)) (i : Nat) (R : World -> Prop) (e : Ent2 Rl) (t : Nat -> Value) (wx : World) : Result Next -> Prop
 | .ok (.value v) w' => ResT2 E i R e t wx v w'
 | .ok .skip w' => ResT2 E i R e t wx undef w'
 | .ok (.enter f args) w' => Calls P f args w' fun r w'' => ∃ v, r = .returned v /\ ResT2 E i R e t wx v w''
 | _ => False
structure StepT2 {Rl : World -> World -> Prop} (P : Program) (ops : List Oper) (L0 : List Value) (E : List (Ent2 Rl)) (R : World -> Prop) (i : Nat) (o : Oper) (e : Ent2 Rl) : Prop where
 go : ∀ (t : Nat -> Value) (wx : World), R wx -> (∀ k, needs o k = true -> okAt2 E k t wx) ->
  match zfp E o with
  | some true => PostT2 P E i R e t wx ((execOp (Act.eval ⟨(fill2 ops E t 0 L0).toArray, []⟩) o).run P wx)
  | some false => ∀ w, e.ok t undef w
  | none => False
def StepsT2 {Rl : World -> World -> Prop} (P : Program) (ops : List Oper) (L0 : List Value) (E : List (Ent2 Rl)) (R : World -> Prop) : Nat -> List Oper -> List (Ent2 Rl) -> Prop
 | i, o :: os, e :: es => StepT2 P ops L0 E R i o e /\ StepsT2 P ops L0 E R (i + 1) os es
 | _, _, [] => True
 | _, [], _ :: _ => False
theorem StepsT2.c {Rl : World -> World -> Prop} {P : Program} {ops : List Oper} {L0 : List Value} {E : List (Ent2 Rl)} {R : World -> Prop} {i : Nat} {o : Oper} {os : List Oper} {e : Ent2 Rl} {es : List (Ent2 Rl)} (h : StepT2 P ops L0 E R i o e) (k : StepsT2 P ops L0 E R (i + 1) os es) : StepsT2 P ops L0 E R i (o :: os) (e :: es) := ⟨h, k⟩
theorem StepsT2.n {Rl : World -> World -> Prop} {P : Program} {ops : List Oper} {L0 : List Value} {E : List (Ent2 Rl)} {R : World -> Prop} {i : Nat} {os : List Oper} : StepsT2 P ops L0 E R i os [] := by cases os <;> exact trivial
theorem StepsT_at2 {Rl : World -> World -> Prop} {P : Program} {ops : List Oper} {L0 : List Value} {E : List (Ent2 Rl)} {R : World -> Prop} : ∀ (os : List Oper) (es : List (Ent2 Rl)) (d i : Nat) (o : Oper), StepsT2 P ops L0 E R d os es -> i < es.length -> os[i]? = some o -> ∃ e, es[i]? = some e /\ StepT2 P ops L0 E R (d + i) o e
 | [], _, _, _, _, _, _, h => by simp at h
 | _ :: _, [], _, _, _, _, h, _ => by simp at h
 | o :: os, e :: es, d, 0, o', hs, _, h => by
  simp at h
  subst h
  exact ⟨e, rfl, hs.1⟩
 | o :: os, e :: es, d, i + 1, o', hs, hi, h => by
  obtain ⟨e', he, hst⟩ := StepsT_at2 os es (d + 1) i o' hs.2 (by simpa using hi) (by simpa using h)
  exact ⟨e', by simpa using he, by rwa [Nat.add_assoc, Nat.add_comm 1 i] at hst⟩
section
variable {P : Program} {Q : Exit -> Act -> World -> Prop}
theorem zfm {Rl : World -> World -> Prop} [OldR Rl] {id : Nat} {ops : List Oper} {L0 : List Value} {w : World} (n : Nat) (E : List (Ent2 Rl)) (R : World -> Prop) (hm : P.follows .mixedOrders = true) (hc : ze8 ops n L0.length = true) (hE : E.length = n) (hdep : depChk ops E = true)
  (start : R w.drew)
  (steps : StepsT2 P ops L0 E R 0 ops E)
  (fin : ∀ (t : Nat -> Value) (wx : World), R wx -> (∀ k, k < n -> okAt2 E k t wx) -> wpList P ops.toArray Q (ops.drop n) ⟨(fill2 ops E t 0 L0).toArray, []⟩ wx) : (Code.region id ops.toArray true).wp P Q ⟨L0.toArray, []⟩ w := by
 unfold ze8 at hc
 simp only [Bool.and_eq_true, decide_eq_true_eq, List.all_eq_true, List.mem_range] at hc
 obtain ⟨⟨⟨hn, hb⟩, htl⟩, hall⟩ := hc
 obtain ⟨m, hmm⟩ : ∃ m, ops.length = n + m := ⟨ops.length - n, (Nat.add_sub_cancel' hn).symm⟩
 have htl2 : 0 < m -> sinkAt ops.toArray n = true /\ ∀ p, p + 1 < m -> ∃ o, ops[n + p + 1]? = some o /\ needs o (n + p) = true := by
  intro hm0
  unfold tailChk at htl
  simp only [Bool.or_eq_true, decide_eq_true_eq, Bool.and_eq_true, List.all_eq_true, List.mem_range] at htl
  rcases htl with h | ⟨h, h'⟩
  ·omega
  ·refine ⟨h, fun p hp => ?_⟩
   have := h' p (by omega)
   cases ho2 : ops[n + p + 1]? with
   | none => rw [ho2] at this; cases this
   | some o2 => rw [ho2] at this; exact ⟨o2, rfl, this⟩
 clear htl
 have hop : ∀ i o, i < n -> ops[i]? = some o -> opChk ops n L0.length i o = true := fun i o hi ho => by have := hall i hi; rw [ho] at this; exact this
 have hjs : ∀ i j o, i < n -> ops[i]? = some o -> j ∈ jsAt E i -> needs o j = true := fun i j o hi ho hj => by
  unfold depChk at hdep
  simp only [List.all_eq_true, List.mem_range] at hdep
  have := hdep i (by omega)
  rw [ho] at this
  exact (List.all_eq_true.1 this) j hj
 have hget : ∀ i, i < n -> ∃ o, ops[i]? = some o := fun i hi => ⟨_, List.getElem?_eq_getElem (by omega)⟩
 let JT : (Nat -> Bool) -> Act -> World -> Prop := fun l a w => R w /\ ∃ (t : Nat -> Value) (tm : Array Value), a = ⟨tm, []⟩ /\ tm.size = L0.length /\ (∀ s, (∀ k, k < n -> dstOf ops k ≠ some s) -> tm[s]? = L0[s]?) /\ ∀ k, k < n -> l k = true -> okAt2 E k t w /\ ∀ d, dstOf ops k = some d -> tm[d]? = some (t k)
 let J2 : (Nat -> Bool) -> Act -> World -> Prop := fun l a w => zef ops.toArray l /\ ∃ q, q <= m /\ (∀ k, k < m -> l (n + k) = decide (k < q)) /\ (q = 0 -> JT l a w) /\ (0 < q -> (∀ k, k < n -> l k = true) /\ wpList P ops.toArray Q (ops.drop (n + q)) a w)
 -- what comes of JT when all of the head is there
 have hjoin : ∀ l a w, (∀ k, k < n -> l k = true) -> JT l a w -> wpList P ops.toArray Q (ops.drop n) a w := by
  intro l a w hl hJ
  obtain ⟨hR, t, tm, rfl, hsz, hoth, hk⟩ := hJ
  have e : tm = (fill2 ops E t 0 L0).toArray := by
   apply Array.ext'
   apply List.ext_getElem?
   intro s
   rw [Array.getElem?_toList]
   by_cases hd : ∃ k, k < n /\ dstOf ops k = some s
   ·obtain ⟨k, hkn, hds⟩ := hd
    obtain ⟨o, ho⟩ := hget k hkn
    have hod : o.dst = some s := by simpa [dstOf, ho] using hds
    have hc := hop k o hkn ho
    unfold opChk at hc
    rw [hod] at hc
    simp only [Bool.and_eq_true, decide_eq_true_eq, List.all_eq_true, List.mem_range, Bool.or_eq_true, bne_iff_ne] at hc
    obtain ⟨⟨⟨_, hdN, hdist⟩, _⟩, _⟩ := hc
    have hke : k < E.length := by omega
    have hEk : E[k]? = some E[k] := List.getElem?_eq_getElem hke
    have h1 := hk k hkn (hl k hkn)
    have h2 := h1.1
    unfold okAt2 at h2
    rw [hEk] at h2
    have h3 := fill_atY s ops E t 0 L0 k o _ ho hEk hod hdN fun j p h1 h2 hp hpd => by
     have := hdist j (by omega)
     have hj : dstOf ops j = some s := by simp [dstOf, hp, hpd]
     rcases this with h | h
     ·omega
     ·exact h hj
    rw [h1.2 s hds]
    show _ = (fill2 ops E t 0 L0)[s]?
    rw [h3, Nat.zero_add, Ent2.ok_val _ h2]
   ·rw [hoth s fun k hkn hds => hd ⟨k, hkn, hds⟩]
    show _ = (fill2 ops E t 0 L0)[s]?
    rw [zb2 s ops E t 0 L0 fun k o hke ho hod => hd ⟨k, by omega, by simp [dstOf, ho, hod]⟩]
  subst e
  exact fin t w hR fun k hkn => (hk k hkn (hl k hkn)).1
 have hst0 : J2 (fun _ => false) ⟨L0.toArray, []⟩ w.drew := ⟨(fun _ _ _ h => by cases h), 0, Nat.zero_le _, (fun k _ => by simp), (fun _ => ⟨start, (fun _ => undef), _, rfl, (by simp), (fun s _ => by simp), (fun k _ h => by cases h)⟩), (fun h => absurd h (Nat.lt_irrefl 0))⟩
 refine wp_region_any hm (zds J2 hb ?_ ?_ ops.toArray.size _ (fun _ => false) _ _ (by simp) (fun k hk => by simp at hk; simp [hk]) (wcnt_le _ _) hst0)
 ·intro l a w i o ho hf hpre hJ
  have ho' : ops[i]? = some o := by simpa using ho
  have hin : i < ops.length := by have := (Array.getElem?_eq_some_iff.1 ho).1; simpa using this
  obtain ⟨hcl, q, hq, hlq, h0, h1⟩ := hJ
  have hcs := zeG hcl ho hpre
  unfold wpOp
  rw [ho]
  dsimp only
  by_cases hi : i < n
  ·-- an operation of the head
   have hq0 : q = 0 := by
    refine Classical.byContradiction fun hne => ?_
    have := (h1 (by omega)).1 i hi
    rw [hf] at this
    cases this
   subst hq0
   obtain ⟨hR, t, tm, rfl, hsz, hoth, hk⟩ := h0 rfl
   obtain ⟨e, he, hst⟩ := StepsT_at2 ops E 0 i o steps (by omega) ho'
   rw [Nat.zero_add] at hst
   have hch := hop i o hi ho'
   unfold opChk at hch
   simp only [Bool.and_eq_true, Bool.not_eq_true', List.all_eq_true, List.mem_range, Bool.or_eq_true, bne_iff_ne] at hch
   obtain ⟨⟨⟨hsel, hdst⟩, htmp⟩, hg⟩ := hch
   have hneed : ∀ k, needs o k = true -> l k = true := fun k hk => by
    obtain ⟨e, he, hb, hon⟩ := zbb hk
    rw [<- hon]
    exact hpre e he hb
   have hneedn : ∀ k, needs o k = true -> k < n := fun k hk => by
    obtain ⟨e, he, hb2, hon⟩ := zbb hk
    have := zcC hb ho e he hb2
    omega
   have hev : execOp (Act.eval ⟨tm, []⟩) o = execOp (Act.eval ⟨(fill2 ops E t 0 L0).toArray, []⟩) o := by
    refine execOp_congr o (fun cs b h => by unfold isSelect at hsel; rw [h] at hsel; cases hsel) fun x hx => ?_
    cases x with
    | const v => rfl
    | global g => rfl
    | func f => rfl
    | tmp s =>
     have hs : s ∈ tmpsOf o := List.mem_filterMap.2 ⟨.tmp s, by simpa using hx, rfl⟩
     show tm.getD s undef = (fill2 ops E t 0 L0).toArray.getD s undef
     have e1 : tm[s]? = (fill2 ops E t 0 L0)[s]? := by
      by_cases hd : ∃ k, k < n /\ dstOf ops k = some s
      ·obtain ⟨k, hkn, hds⟩ := hd
       have hnd : needs o k = true := by
        rcases htmp s hs k hkn with h | h
        ·exact absurd hds h
        ·exact h
       obtain ⟨p, hp⟩ := hget k hkn
       have hpd : p.dst = some s := by simpa [dstOf, hp] using hds
       have hc := hop k p hkn hp
       unfold opChk at hc
       rw [hpd] at hc
       simp only [Bool.and_eq_true, decide_eq_true_eq, List.all_eq_true, List.mem_range, Bool.or_eq_true, bne_iff_ne] at hc
       obtain ⟨⟨⟨_, hdN, hdist⟩, _⟩, _⟩ := hc
       have hke : k < E.length := by omega
       have hEk : E[k]? = some E[k] := List.getElem?_eq_getElem hke
       have h1 := hk k hkn (hneed k hnd)
       have h2 := h1.1
       unfold okAt2 at h2
       rw [hEk] at h2
       have h3 := fill_atY s ops E t 0 L0 k p _ hp hEk hpd hdN fun j p h1 h2 hp hpd => by
        have := hdist j (by omega)
        have hj : dstOf ops j = some s := by simp [dstOf, hp, hpd]
        rcases this with h | h
        ·omega
        ·exact h hj
       rw [h1.2 s hds, h3, Nat.zero_add, Ent2.ok_val _ h2]
      ·rw [hoth s fun k hkn hds => hd ⟨k, hkn, hds⟩, zb2 s ops E t 0 L0 fun k o hke ho hod => hd ⟨k, by omega, by simp [dstOf, ho, hod]⟩]
     simp only [Array.getD_eq_getD_getElem?, e1, List.getElem?_toArray]
   have hwant : ∀ b, zfp E o = some b -> Region.wanted o (yielded ops.toArray tm) = b := by
    intro b hgb
    unfold zfp at hgb
    unfold Region.wanted
    cases hgu : o.guard with
    | none => rw [hgu] at hgb; simpa using hgb
    | some jb =>
     obtain ⟨j, c⟩ := jb
     rw [hgu] at hgb hg
     simp only [Bool.and_eq_true, decide_eq_true_eq] at hg
     obtain ⟨⟨hjn, hnj⟩, hjd⟩ := hg
     obtain ⟨d, hd⟩ := Option.isSome_iff_exists.1 hjd
     have h1 := hk j hjn (hneed j hnj)
     dsimp only at hgb ⊢
     cases hEj : E[j]? with
     | none => rw [hEj] at hgb; cases hgb
     | some ej =>
      rw [hEj] at hgb
      cases ej with
      | u F hF => cases hgb
      | d js F hF => cases hgb
      | k v =>
       cases v <;> first | (simp at hgb; done) | skip
       rename_i c'
       have h2 := h1.1
       unfold okAt2 at h2
       rw [hEj] at h2
       have h3 : tm[d]? = some (.bool c') := by rw [h1.2 d hd]; exact congrArg some h2
       have hj : (ops.toArray[j]?).bind (·.dst) = some d := by simpa [dstOf] using hd
       have hy : yielded ops.toArray tm j = some c' := by
        unfold yielded
        rw [hj]
        simp [h3]
       rw [hy]
       simp only [Option.some.injEq] at hgb
       rw [<- hgb]
       rfl
   have hs := hst.go t w hR fun k hk' => (hk k (hneedn k hk') (hneed k hk')).1
   -- what is left behind it
   have hend : ∀ v w', ResT2 E i R e t w v w' -> J2 (lset l i) ((⟨tm, []⟩ : Act).put o.dst v) w' := by
    intro v w' ⟨r1, r2, r3⟩
    have hl2 : ∀ k, k < m -> lset l i (n + k) = decide (k < 0) := fun k hk => by
     have : (n + k == i) = false := by simp; omega
     simp [lset, hlq k hk, this]
    refine ⟨hcs, 0, Nat.zero_le _, hl2, fun _ => ⟨r1, fun k => if k = i then v else t k, ((⟨tm, []⟩ : Act).put o.dst v).tmps, ?_, ?_, fun s hs => ?_, fun k hkn hlk => ?_⟩, fun h => absurd h (by omega)⟩
    ·cases o.dst <;> rfl
    ·cases o.dst <;> simp [Act.put, hsz]
    ·cases hod : o.dst with
     | none => exact hoth s hs
     | some d =>
      have : d ≠ s := fun hds => hs i hi (by simp [dstOf, ho', hod, hds])
      simp only [Act.put, Array.getElem?_setIfInBounds_ne this]
      exact hoth s hs
    ·by_cases hki : k = i
     ·subst hki
      refine ⟨?_, fun d hd => ?_⟩
      ·unfold okAt2
       rw [he]
       dsimp only
       rw [if_pos rfl]
       refine e.same r3 fun j hj => if_neg fun hji => ?_
       subst hji
       have := hneed j (hjs j j o (by omega) ho' (by unfold jsAt; rw [he]; exact hj))
       rw [hf] at this
       cases this
      ·have hod : o.dst = some d := by simpa [dstOf, ho'] using hd
       rw [hod] at hdst
       simp only [Bool.and_eq_true, decide_eq_true_eq] at hdst
       dsimp only
       rw [if_pos rfl, hod]
       simp [Act.put, hsz, hdst.1]
     ·have hlk' : l k = true := by simpa [lset, hki] using hlk
      dsimp only
      rw [if_neg hki]
      refine ⟨okAt2_same (okAt2_keeps hki (hk k hkn hlk').1 r2) (if_neg hki) fun j hj => if_neg fun hji => ?_, fun d hd => ?_⟩
      ·obtain ⟨o2, ho2⟩ := hget k hkn
       obtain ⟨e2, he2, hb2, hon2⟩ := zbb (hjs k j o2 hkn ho2 hj)
       have := hcl k o2 (by simpa using ho2) hlk' e2 he2 hb2
       rw [hon2, hji, hf] at this
       cases this
      cases hod : o.dst with
      | none => exact (hk k hkn hlk').2 d hd
      | some d' =>
       rw [hod] at hdst
       simp only [Bool.and_eq_true, decide_eq_true_eq, List.all_eq_true, List.mem_range, Bool.or_eq_true, bne_iff_ne] at hdst
       have hne : d' ≠ d := fun h => by
        rcases hdst.2 k hkn with h2 | h2
        ·exact hki h2
        ·exact h2 (by rw [hd, h])
       simp only [Act.put, Array.getElem?_setIfInBounds_ne hne]
       exact (hk k hkn hlk').2 d hd
   cases hgT : zfp E o with
   | none => rw [hgT] at hs; exact hs.elim
   | some b =>
    rw [hgT] at hs
    have hw := hwant b hgT
    cases b with
    | false =>
     show if Region.wanted o (yielded ops.toArray tm) = true then _ else _
     rw [hw]
     exact hend _ _ ⟨hR, Or.inl (Old.refl _), hs w⟩
    | true =>
     show if Region.wanted o (yielded ops.toArray tm) = true then _ else _
     rw [hw]
     refine .inl ?_
     show o.upon P _ _ Q ((execOp (Act.eval ⟨tm, []⟩) o).run P w)
     rw [hev]
     dsimp only at hs
     generalize (execOp (Act.eval ⟨(fill2 ops E t 0 L0).toArray, []⟩) o).run P w = r at hs ⊢
     cases r with
     | halt x w' => exact hs.elim
     | ok nx w' =>
      cases nx <;> first
       | exact hend _ _ hs
       | exact Calls.mono hs (fun r w'' ⟨v, hr, h⟩ => by subst hr; exact hend _ _ h)
       | exact (hs : False).elim
  ·-- one of those behind
   have hmn : 0 < m := by omega
   have htl3 := htl2 (by omega)
   obtain ⟨p, rfl⟩ : ∃ p, i = n + p := ⟨i - n, by omega⟩
   have hpq : p = q := by
    have h2 := hlq p (by omega)
    rw [hf] at h2
    have h3 : ¬ p < q := by simpa using h2.symm
    refine Classical.byContradiction fun hne => ?_
    have h4 : 0 < p := by omega
    obtain ⟨o2, ho2, hnd⟩ := htl3.2 (p - 1) (by omega)
    rw [show n + (p - 1) + 1 = n + p by omega, ho'] at ho2
    cases ho2
    obtain ⟨e, he, hb2, hon⟩ := zbb hnd
    have h5 := hpre e he hb2
    rw [hon, hlq (p - 1) (by omega)] at h5
    have : p - 1 < q := by simpa using h5
    omega
   subst hpq
   have hhead : ∀ k, k < n -> l k = true := fun k hk => by
    by_cases hp0 : p = 0
    ·subst hp0
     exact sink_all htl3.1 hcl ho hpre _ k rfl hk
    ·exact (h1 (by omega)).1 k hk
   have hwl : wpList P ops.toArray Q (ops.drop (n + p)) a w := by
    by_cases hp0 : p = 0
    ·subst hp0
     exact hjoin l a w hhead (h0 rfl)
    ·exact (h1 (by omega)).2
   rw [List.drop_eq_getElem_cons hin] at hwl
   have eo : ops[n + p] = o := by rw [List.getElem?_eq_getElem hin] at ho'; exact Option.some.inj ho'
   rw [eo] at hwl
   have hst2 : ∀ a' w', wpList P ops.toArray Q (ops.drop (n + p + 1)) a' w' -> J2 (lset l (n + p)) a' w' := fun a' w' h => by
    refine ⟨hcs, p + 1, by omega, fun k hk => ?_, fun h => absurd h (by omega), fun _ => ⟨fun k hk => ?_, h⟩⟩
    ·by_cases hkp : k = p
     ·subst hkp; simp [lset]
     ·have : (n + k == n + p) = false := by simp; omega
      have e3 : decide (k < p) = decide (k < p + 1) := by
       by_cases h : k < p
       ·simp [h]; omega
       ·have h' : ¬ k < p + 1 := by omega
        simp [h, h']
      simp [lset, this, hlq k hk, e3]
    ·simp [lset, hhead k hk]
   have hwl' := zcL hwl
   split
   ·rename_i hw
    rw [if_pos hw] at hwl'
    exact hwl'.imp (Oper.wp_mono hst2) fun h => h
   ·rename_i hw
    rw [if_neg hw] at hwl'
    exact hst2 _ _ hwl'
 ·intro l a w hall hJ
  obtain ⟨hcl, q, hq, hlq, h0, h1⟩ := hJ
  have hall' : ∀ i, i < ops.length -> l i = true := fun i hi => hall i (by simpa using hi)
  by_cases hmn : n = ops.length
  ·have hq0 : q = 0 := by omega
   have := hjoin l a w (fun k hk => hall' k (by omega)) (h0 hq0)
   rw [hmn, List.drop_length] at this
   exact this
  ·have hqe : q = m := by
    refine Classical.byContradiction fun hne => ?_
    have h2 := hlq q (by omega)
    rw [hall' (n + q) (by omega)] at h2
    simp at h2
   have := (h1 (by omega)).2
   rw [hqe, show n + m = ops.length by omega, List.drop_length] at this
   exact this
end
section
variable {Rl : World -> World -> Prop} {P : Program} {ops : List Oper} {L0 : List Value} {E : List (Ent2 Rl)} {R : World -> Prop} {o : Oper} {e : Ent2 Rl} {i : Nat}
theorem ResT2.old {t : Nat -> Value} {wx w' : World} {v : Value} (hR : ∀ w w', R w -> Old w w' -> R w') (h : R wx) (ho : Old wx w') (he : e.ok t v w') : ResT2 E i R e t wx v w' := ⟨hR _ _ h ho, .inl ho, he⟩
theorem stpy {v : Value} (hg : zfp E o = some true := by rfl) (h : ∀ (t : Nat -> Value) (wx : World), (execOp (Act.eval ⟨(fill2 ops E t 0 L0).toArray, []⟩) o).run P wx = .ok (.value v) wx := by intro _ _; kernel_rfl) : StepT2 P ops L0 E R i o (.k v) := by
 refine ⟨fun t wx hR _ => ?_⟩
 rw [hg]
 dsimp only
 rw [h t wx]
 exact ⟨hR, Or.inl (Old.refl _), rfl⟩
theorem stwy {v : Value} (hg : zfp E o = some true) (h : ∀ (t : Nat -> Value) (wx : World), R wx -> (execOp (Act.eval ⟨(fill2 ops E t 0 L0).toArray, []⟩) o).run P wx = .ok (.value v) wx) : StepT2 P ops L0 E R i o (.k v) := by
 refine ⟨fun t wx hR _ => ?_⟩
 rw [hg]
 dsimp only
 rw [h t wx hR]
 exact ⟨hR, Or.inl (Old.refl _), rfl⟩
theorem stgy (h : ∀ (t : Nat -> Value) (wx : World), R wx -> (∀ k, needs o k = true -> okAt2 E k t wx) -> PostT2 P E i R e t wx ((execOp (Act.eval ⟨(fill2 ops E t 0 L0).toArray, []⟩) o).run P wx)) (hg : zfp E o = some true := by rfl) : StepT2 P ops L0 E R i o e := by
 refine ⟨fun t wx hR hd => ?_⟩
 rw [hg]
 exact h t wx hR hd
theorem stzy {v : Value} (h : ∀ (t : Nat -> Value) (wx : World), R wx -> (∀ k, needs o k = true -> okAt2 E k t wx) -> (execOp (Act.eval ⟨(fill2 ops E t 0 L0).toArray, []⟩) o).run P wx = .ok (.value v) wx) (hg : zfp E o = some true := by rfl) : StepT2 P ops L0 E R i o (.k v) :=
 stgy (fun t wx hR hd => by
  rw [h t wx hR hd]
  exact ⟨hR, Or.inl (Old.refl _), rfl⟩) hg
theorem stxy (h : ∀ (t : Nat -> Value) (wx : World), R wx -> (∀ k, needs o k = true -> okAt2 E k t wx) -> ∃ v, (execOp (Act.eval ⟨(fill2 ops E t 0 L0).toArray, []⟩) o).run P wx = .ok (.value v) wx /\ e.ok t v wx) (hg : zfp E o = some true := by rfl) : StepT2 P ops L0 E R i o e :=
 stgy (fun t wx hR hd => by
  obtain ⟨v, hv, he⟩ := h t wx hR hd
  rw [hv]
  exact ⟨hR, Or.inl (Old.refl _), he⟩) hg
theorem stcy {f : FuncId} {args : (Nat -> Value) -> Array Value} (hg : zfp E o = some true) (hR : ∀ w w', R w -> Old w w' -> R w') (hx : ∀ (t : Nat -> Value) (wx : World), (execOp (Act.eval ⟨(fill2 ops E t 0 L0).toArray, []⟩) o).run P wx = .ok (.enter f (args t)) wx)
  (h : ∀ (t : Nat -> Value) (wx : World), R wx -> (∀ k, needs o k = true -> okAt2 E k t wx) -> Calls P f (args t) wx fun r w' => ∃ v, r = .returned v /\ Old wx w' /\ e.ok t v w') : StepT2 P ops L0 E R i o e := by
 refine ⟨fun t wx hRx hd => ?_⟩
 rw [hg]
 dsimp only
 rw [hx t wx]
 exact (h t wx hRx hd).mono fun r w' ⟨v, hr, ho, he⟩ => ⟨v, hr, ResT2.old hR hRx ho he⟩
theorem stky {f : FuncId} {args : Array Value} {v : Value} (hg : zfp E o = some true) (hR : ∀ w w', R w -> Old w w' -> R w') (hx : ∀ (t : Nat -> Value) (wx : World), (execOp (Act.eval ⟨(fill2 ops E t 0 L0).toArray, []⟩) o).run P wx = .ok (.enter f args) wx)
  (h : ∀ (wx : World), R wx -> Calls P f args wx fun r w' => r = .returned v /\ Old wx w') : StepT2 P ops L0 E R i o (.k v) := by
 refine ⟨fun t wx hRx _ => ?_⟩
 rw [hg]
 dsimp only
 rw [hx t wx]
 exact (h wx hRx).mono fun r w' ⟨hr, ho⟩ => ⟨v, hr, ResT2.old hR hRx ho rfl⟩
theorem stmy {ob : (Nat -> Value) -> Obj} {v : Nat -> Value} (hR : ∀ w w', R w -> Old w w' -> R w') (h : ∀ (t : Nat -> Value) (wx : World), R wx -> (∀ k, needs o k = true -> okAt2 E k t wx) -> e.ok t (v wx.heap.size) (wx.alloc (ob t))) (hg : zfp E o = some true := by rfl) (hx : ∀ (t : Nat -> Value) (wx : World), (execOp (Act.eval ⟨(fill2 ops E t 0 L0).toArray, []⟩) o).run P wx = .ok (.value (v wx.heap.size)) (wx.alloc (ob t)) := by intro _ _; kernel_rfl) : StepT2 P ops L0 E R i o e := by
 refine ⟨fun t wx hRx hd => ?_⟩
 rw [hg]
 dsimp only
 rw [hx t wx]
 exact ResT2.old hR hRx ((Old.refl _).alloc _) (h t wx hRx hd)
section
variable {dst : Option Tmp} {ty : TypeId} {pos : String} {after : Array Edge} {guard : Option (Nat × Bool)} {T : TypeId} {x : Operand} {d : TypeDesc}
theorem stly {p : Addr} {v : Value} (hu : P.underlying T = some d) (hc : ∀ wx, R wx -> wx.cell? p = some v) (hg : zfp E ⟨dst, .load T x, ty, pos, after, guard⟩ = some true := by rfl) (hd : aggD d = false := by rfl) (hx : ∀ t, Act.eval ⟨(fill2 ops E t 0 L0).toArray, []⟩ x = .pointer (some p) := by intro _; kernel_rfl) : StepT2 P ops L0 E R i ⟨dst, .load T x, ty, pos, after, guard⟩ (.k v) := by
 refine stwy hg fun t wx hR => ?_
 have hag : (isAgg T).run P wx = .ok false wx := by
  unfold isAgg
  rw [Sem.run_bind, run_underlying hu wx]
  cases d <;> simp_all [aggD]
 simp only [execOp, hx t, Instr.loadAt, Instr.sureAddr, loadVar, Sem.run_bind, Sem.run_pure, Result.andThen_ok, hag]
 simp [hc wx hR]
theorem stsy {b : Nat} {cs : Array Value} {tb : TypeId} (hu : P.underlying T = some d) (hc : ∀ wx, R wx -> wx.heap[b]? = some (.cells cs tb (0, 0))) (hg : zfp E ⟨dst, .load T x, ty, pos, after, guard⟩ = some true := by rfl) (hd : aggD d = true := by rfl) (hi : (P.info? T).map (·.size) = some cs.size := by kernel_rfl) (hx : ∀ t, Act.eval ⟨(fill2 ops E t 0 L0).toArray, []⟩ x = .pointer (some ⟨b, 0, none⟩) := by intro _; kernel_rfl) : StepT2 P ops L0 E R i ⟨dst, .load T x, ty, pos, after, guard⟩ (.k (.agg cs)) := by
 refine stwy hg fun t wx hR => ?_
 simp only [execOp, hx t, Instr.loadAt, Instr.sureAddr, Sem.run_bind, Sem.run_pure, Result.andThen_ok, run_loadVar_row wx b tb T cs (0, 0) d (hc wx hR) hu (by cases d <;> simp_all [aggD]) hi]
theorem stfy {b : Nat} {cs : Array Value} {tb : TypeId} {v : Value} (j : Nat) (hu : P.underlying T = some d) (hc : ∀ wx, R wx -> wx.heap[b]? = some (.cells cs tb (0, 0))) (hg : zfp E ⟨dst, .load T x, ty, pos, after, guard⟩ = some true := by rfl) (hd : aggD d = false := by rfl) (hx : ∀ t, Act.eval ⟨(fill2 ops E t 0 L0).toArray, []⟩ x = .pointer (some ⟨b, j, none⟩) := by intro _; kernel_rfl) (hv : cs[j]? = some v := by rfl) : StepT2 P ops L0 E R i ⟨dst, .load T x, ty, pos, after, guard⟩ (.k v) :=
 stly hu (fun wx hR => (cell_of_row _ _ j _ _ (0, 0) (hc wx hR)).trans hv) hg hd hx
end
theorem stKy {f : FuncId} {fn : Func} {c : Code} {oas : Array Operand} {tys : Array TypeId} {dst : Option Tmp} {ty : TypeId} {pos : String} {after : Array Edge} {guard : Option (Nat × Bool)} {args : Array Value} {v : Value} (hR : ∀ w w', R w -> Old w w' -> R w') (hf : P.funcs[f]? = some fn) (h : ∀ (wx : World), R wx -> Calls P f args wx fun r w' => r = .returned v /\ Old wx w') (hg : zfp E ⟨dst, .call ⟨.value (.func f), oas, tys⟩, ty, pos, after, guard⟩ = some true := by rfl) (hn : (fn.name == "runtime.NumGoroutine") = false := by decide) (hb : fn.body = some c := by rfl) (hx : ∀ t, oas.map (Act.eval ⟨(fill2 ops E t 0 L0).toArray, []⟩) = args := by intro _; kernel_rfl) : StepT2 P ops L0 E R i ⟨dst, .call ⟨.value (.func f), oas, tys⟩, ty, pos, after, guard⟩ (.k v) :=
 stky hg hR (fun t wx => by rw [zc8 hf hn hb, hx t]) h
theorem stCy {f : FuncId} {fn : Func} {c : Code} {oas : Array Operand} {tys : Array TypeId} {dst : Option Tmp} {ty : TypeId} {pos : String} {after : Array Edge} {guard : Option (Nat × Bool)} {args : (Nat -> Value) -> Array Value} (hR : ∀ w w', R w -> Old w w' -> R w') (hf : P.funcs[f]? = some fn) (h : ∀ (t : Nat -> Value) (wx : World), R wx -> (∀ k, (after.any fun e => Region.binds .any e && e.on == k) = true -> okAt2 E k t wx) -> Calls P f (args t) wx fun r w' => ∃ v, r = .returned v /\ Old wx w' /\ e.ok t v w') (hg : zfp E ⟨dst, .call ⟨.value (.func f), oas, tys⟩, ty, pos, after, guard⟩ = some true := by rfl) (hn : (fn.name == "runtime.NumGoroutine") = false := by decide) (hb : fn.body = some c := by rfl) (hx : ∀ t, oas.map (Act.eval ⟨(fill2 ops E t 0 L0).toArray, []⟩) = args t := by intro _; kernel_rfl) : StepT2 P ops L0 E R i ⟨dst, .call ⟨.value (.func f), oas, tys⟩, ty, pos, after, guard⟩ e :=
 stcy hg hR (fun t wx => by rw [zc8 hf hn hb, hx t]) h
end
end
end Go.Proofs.YtlnmjbbpenhdbaaGreat
