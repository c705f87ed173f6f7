/-
  What the proof needs, part 21.
-/
import Derived.Test.YtlnmjbbpenhdbaaGreatKp20
namespace Go.Proofs.YtlnmjbbpenhdbaaGreat
open Tryz
set_option linter.unusedSimpArgs false
set_option linter.unusedVariables false
set_option maxRecDepth 100000
set_option maxHeartbeats 32000000
section
open Go Go.RowKit
def lookF : List Oper -> List Ent -> (Nat -> Value) -> Nat -> Value -> Nat -> Value
 | o :: os, e :: es, t, i, x, s => lookF os es t (i + 1) (match o.dst with | some d => bif Nat.beq d s then e.val (t i) else x | none => x) s
 | _, _, _, _, x, _ => x
def evL (ops : List Oper) (E : List Ent) (t : Nat -> Value) (L0 : List Value) : Operand -> Value
 | .tmp s => lookF ops E t 0 (L0.getD s undef) s
 | .const v => Act.eval ⟨#[], []⟩ (.const v)
 | .global g => Act.eval ⟨#[], []⟩ (.global g)
 | .func f => Act.eval ⟨#[], []⟩ (.func f)
theorem evL_func {ops : List Oper} {E : List Ent} {t : Nat -> Value} {L0 : List Value} {f : FuncId} : evL ops E t L0 (.func f) = Act.eval ⟨#[], []⟩ (.func f) := rfl
theorem zeo (s : Nat) : ∀ (os : List Oper) (es : List Ent) (t : Nat -> Value) (i : Nat) (L : List Value), (∀ k o d, k < es.length -> os[k]? = some o -> o.dst = some d -> d < L.length) -> (fill os es t i L).getD s undef = lookF os es t i (L.getD s undef) s
 | [], _, _, _, _, _ => by simp [fill, lookF]
 | _ :: _, [], _, _, _, _ => by simp [fill, lookF]
 | o :: os, e :: es, t, i, L, h => by
  unfold fill lookF
  have h0 := h 0 o
  cases hd : o.dst with
  | none => exact zeo s os es t (i + 1) L fun k o' d hk ho hd' => h (k + 1) o' d (by simp; omega) (by simpa using ho) hd'
  | some d =>
   have hdl := h0 d (by simp) rfl hd
   dsimp only
   rw [zeo s os es t (i + 1) (L.set d (e.val (t i))) fun k o' d' hk ho hd' => by
    have := h (k + 1) o' d' (by simp; omega) (by simpa using ho) hd'
    simpa using this]
   congr 1
   cases hb : Nat.beq d s with
   | true =>
    have hds : d = s := Nat.eq_of_beq_eq_true hb
    subst hds
    simp [List.getD, hdl]
   | false =>
    have hds : ¬ d = s := Nat.ne_of_beq_eq_false hb
    simp [List.getD, List.getElem?_set_ne hds]
theorem evL_eq {ops : List Oper} {E : List Ent} {L0 : List Value} (h : ∀ k o d, k < E.length -> ops[k]? = some o -> o.dst = some d -> d < L0.length) (t : Nat -> Value) : Act.eval ⟨(fill ops E t 0 L0).toArray, []⟩ = evL ops E t L0 := by
 funext x
 cases x with
 | tmp s =>
  have := zeo s ops E t 0 L0 h
  show (fill ops E t 0 L0).toArray.getD s undef = lookF ops E t 0 (L0.getD s undef) s
  rw [<- this]
  simp [Array.getD_eq_getD_getElem?]
 | const v => rfl
 | global g => rfl
 | func f => rfl
structure StepTz (P : Program) (ops : List Oper) (L0 : List Value) (E : List Ent) (R : World -> Prop) (o : Oper) (e : Ent) : Prop where
 go : ∀ (t : Nat -> Value) (wx : World), R wx -> (∀ k, needs o k = true -> okAt E k (t k) wx) ->
  match zao E o with
  | some true => PostT P E R e wx ((execOp (evL ops E t L0) o).run P wx)
  | some false => ∀ w, e.ok undef w
  | none => False
def StepsTz (P : Program) (ops : List Oper) (L0 : List Value) (E : List Ent) (R : World -> Prop) : List Oper -> List Ent -> Prop
 | o :: os, e :: es => StepTz P ops L0 E R o e /\ StepsTz P ops L0 E R os es
 | _, [] => True
 | [], _ :: _ => False
theorem StepsTz.c {P : Program} {ops : List Oper} {L0 : List Value} {E : List Ent} {R : World -> Prop} {o : Oper} {os : List Oper} {e : Ent} {es : List Ent} (h : StepTz P ops L0 E R o e) (k : StepsTz P ops L0 E R os es) : StepsTz P ops L0 E R (o :: os) (e :: es) := ⟨h, k⟩
theorem StepsTz.n {P : Program} {ops : List Oper} {L0 : List Value} {E : List Ent} {R : World -> Prop} {os : List Oper} : StepsTz P ops L0 E R os [] := by cases os <;> exact trivial
theorem StepsTz.to {P : Program} {ops : List Oper} {L0 : List Value} {E : List Ent} {R : World -> Prop} (h : ∀ t, Act.eval ⟨(fill ops E t 0 L0).toArray, []⟩ = evL ops E t L0) : ∀ (os : List Oper) (es : List Ent), StepsTz P ops L0 E R os es -> StepsT P ops L0 E R os es
 | o :: os, e :: es, hs => ⟨⟨fun t wx h1 h2 => by rw [h t]; exact hs.1.go t wx h1 h2⟩, StepsTz.to h os es hs.2⟩
 | [], [], _ => trivial
 | _ :: _, [], _ => trivial
 | [], _ :: _, hs => hs.elim
theorem zae {P : Program} {Q : Exit -> Act -> World -> Prop} {id : Nat} {ops : List Oper} {L0 : List Value} {w : World} (n : Nat) (E : List Ent) (R : World -> Prop) (hm : P.follows .mixedOrders = true) (hc : ze6 ops n L0.length = true) (hE : E.length = n) (start : R w.drew) (steps : StepsTz P ops L0 E R ops E)
  (fin : ∀ (t : Nat -> Value) (wx : World), R wx -> (∀ k, k < n -> okAt E k (t k) wx) -> wpList P ops.toArray Q (ops.drop n) ⟨(fill ops E t 0 L0).toArray, []⟩ wx) : (Code.region id ops.toArray true).wp P Q ⟨L0.toArray, []⟩ w := by
 refine zaa n E R hm hc hE start (StepsTz.to (evL_eq fun k o d hk ho hd => ?_) ops E steps) fin
 unfold ze6 at hc
 simp only [Bool.and_eq_true, decide_eq_true_eq, List.all_eq_true, List.mem_range] at hc
 have := hc.2 k (by omega)
 rw [ho] at this
 dsimp only at this
 unfold opChk at this
 rw [hd] at this
 simp only [Bool.and_eq_true, decide_eq_true_eq] at this
 exact this.1.1.2.1
section
variable {P : Program} {ops : List Oper} {L0 : List Value} {E : List Ent} {R : World -> Prop} {o : Oper} {e : Ent}
theorem stpz {v : Value} (hg : zao E o = some true := by rfl) (h : ∀ (t : Nat -> Value) (wx : World), (execOp (evL ops E t L0) o).run P wx = .ok (.value v) wx := by intro _ _; kernel_rfl) : StepTz P ops L0 E R o (.k v) := by
 refine ⟨fun t wx hR _ => ?_⟩
 rw [hg]
 dsimp only
 rw [h t wx]
 exact ⟨hR, fun _ _ h => h, rfl⟩
theorem stvz {v' v : Value} (he : v' = v) (hg : zao E o = some true := by rfl) (h : ∀ (t : Nat -> Value) (wx : World), (execOp (evL ops E t L0) o).run P wx = .ok (.value v') wx := by intro _ _; kernel_rfl) : StepTz P ops L0 E R o (.k v) := by
 subst he
 exact stpz hg h
theorem stwz {v : Value} (hg : zao E o = some true) (h : ∀ (t : Nat -> Value) (wx : World), R wx -> (execOp (evL ops E t L0) o).run P wx = .ok (.value v) wx) : StepTz P ops L0 E R o (.k v) := by
 refine ⟨fun t wx hR _ => ?_⟩
 rw [hg]
 dsimp only
 rw [h t wx hR]
 exact ⟨hR, fun _ _ h => h, rfl⟩
theorem stkz {f : FuncId} {args : Array Value} {v : Value} (hg : zao E o = some true) (hR : ∀ w w', R w -> Old w w' -> R w') (hx : ∀ (t : Nat -> Value) (wx : World), (execOp (evL ops E t L0) o).run P wx = .ok (.enter f args) wx)
  (h : ∀ (wx : World), R wx -> Calls P f args wx fun r w' => r = .returned v /\ Old wx w') : StepTz P ops L0 E R o (.k v) := by
 refine ⟨fun t wx hRx _ => ?_⟩
 rw [hg]
 dsimp only
 rw [hx t wx]
 exact (h wx hRx).mono fun r w' ⟨hr, ho⟩ => ⟨v, hr, ResT.old hR hRx ho rfl⟩
theorem stmz {ob : (Nat -> Value) -> Obj} {v : Nat -> Value} (hR : ∀ w w', R w -> Old w w' -> R w') (h : ∀ (t : Nat -> Value) (wx : World), R wx -> (∀ k, needs o k = true -> okAt E k (t k) wx) -> e.ok (v wx.heap.size) (wx.alloc (ob t))) (hg : zao E o = some true := by rfl) (hx : ∀ (t : Nat -> Value) (wx : World), (execOp (evL ops E t L0) o).run P wx = .ok (.value (v wx.heap.size)) (wx.alloc (ob t)) := by intro _ _; kernel_rfl) : StepTz P ops L0 E R o e := by
 refine ⟨fun t wx hRx hd => ?_⟩
 rw [hg]
 dsimp only
 rw [hx t wx]
 exact ResT.old hR hRx ((Old.refl _).alloc _) (h t wx hRx hd)
theorem run_enterz {t : Nat -> Value} {w : World} {f : FuncId} {fn : Func} {c : Code} {oas : Array Operand} {tys : Array TypeId} {dst : Option Tmp} {ty : TypeId} {pos : String} {after : Array Edge} {guard : Option (Nat × Bool)} (hf : P.funcs[f]? = some fn) (hn : (fn.name == "runtime.NumGoroutine") = false) (hb : fn.body = some c) : (execOp (evL ops E t L0) ⟨dst, .call ⟨.value (.func f), oas, tys⟩, ty, pos, after, guard⟩).run P w = .ok (.enter f (oas.map (evL ops E t L0))) w := by
 have h1 : ¬ fn.name = "runtime.NumGoroutine" := by simpa using hn
 simp [execOp, evL_func, callFunc, hf, h1, hb, go_sem]
section
variable {dst : Option Tmp} {ty : TypeId} {pos : String} {after : Array Edge} {guard : Option (Nat × Bool)} {T : TypeId} {x : Operand} {d : TypeDesc}
theorem stlz {p : Addr} {v : Value} (hu : P.underlying T = some d) (hc : ∀ wx, R wx -> wx.cell? p = some v) (hg : zao E ⟨dst, .load T x, ty, pos, after, guard⟩ = some true := by rfl) (hd : aggD d = false := by rfl) (hx : ∀ t, evL ops E t L0 x = .pointer (some p) := by intro _; kernel_rfl) : StepTz P ops L0 E R ⟨dst, .load T x, ty, pos, after, guard⟩ (.k v) := by
 refine stwz hg fun t wx hR => ?_
 have hag : (isAgg T).run P wx = .ok false wx := by
  unfold isAgg
  rw [Sem.run_bind, run_underlying hu wx]
  cases d <;> simp_all [aggD]
 simp only [execOp, hx t, Instr.loadAt, Instr.sureAddr, loadVar, Sem.run_bind, Sem.run_pure, Result.andThen_ok, hag]
 simp [hc wx hR]
theorem stsz {b : Nat} {cs : Array Value} {tb : TypeId} (hu : P.underlying T = some d) (hc : ∀ wx, R wx -> wx.heap[b]? = some (.cells cs tb (0, 0))) (hg : zao E ⟨dst, .load T x, ty, pos, after, guard⟩ = some true := by rfl) (hd : aggD d = true := by rfl) (hi : (P.info? T).map (·.size) = some cs.size := by kernel_rfl) (hx : ∀ t, evL ops E t L0 x = .pointer (some ⟨b, 0, none⟩) := by intro _; kernel_rfl) : StepTz P ops L0 E R ⟨dst, .load T x, ty, pos, after, guard⟩ (.k (.agg cs)) := by
 refine stwz hg fun t wx hR => ?_
 simp only [execOp, hx t, Instr.loadAt, Instr.sureAddr, Sem.run_bind, Sem.run_pure, Result.andThen_ok, run_loadVar_row wx b tb T cs (0, 0) d (hc wx hR) hu (by cases d <;> simp_all [aggD]) hi]
theorem stfz {b : Nat} {cs : Array Value} {tb : TypeId} {v : Value} (j : Nat) (hu : P.underlying T = some d) (hc : ∀ wx, R wx -> wx.heap[b]? = some (.cells cs tb (0, 0))) (hg : zao E ⟨dst, .load T x, ty, pos, after, guard⟩ = some true := by rfl) (hd : aggD d = false := by rfl) (hx : ∀ t, evL ops E t L0 x = .pointer (some ⟨b, j, none⟩) := by intro _; kernel_rfl) (hv : cs[j]? = some v := by rfl) : StepTz P ops L0 E R ⟨dst, .load T x, ty, pos, after, guard⟩ (.k v) :=
 stlz hu (fun wx hR => (cell_of_row _ _ j _ _ (0, 0) (hc wx hR)).trans hv) hg hd hx
end
theorem stjz {dst : Option Tmp} {ty : TypeId} {pos : String} {after : Array Edge} {guard : Option (Nat × Bool)} {T e : TypeId} {x ix : Operand} {b off n c i : Nat} (sz : Nat) (hi : i < n) (hu : P.underlying T = some (.slice e)) (hs : (P.info? e).map (·.size) = some sz := by kernel_rfl) (hg : zao E ⟨dst, .indexAddr T x ix, ty, pos, after, guard⟩ = some true := by rfl) (hx : ∀ t, evL ops E t L0 x = .slice (some ⟨b, off, none⟩) n c := by intro _; kernel_rfl) (hix : ∀ t, evL ops E t L0 ix = .int .i64 (i : Int) := by intro _; kernel_rfl) : StepTz P ops L0 E R ⟨dst, .indexAddr T x ix, ty, pos, after, guard⟩ (.k (.pointer (some ⟨b, off + i * sz, none⟩))) := by
 refine stwz hg fun t wx _ => ?_
 obtain ⟨z, h1, h2⟩ := Option.map_eq_some_iff.1 hs
 simp only [execOp, hx t, hix t]
 simp [Instr.indexAt, run_underlying hu, asIntOf, sizeOf, typeInfo, h1, h2, hi, go_sem]
theorem stiz {dst : Option Tmp} {ty : TypeId} {pos : String} {after : Array Edge} {guard : Option (Nat × Bool)} {T e : TypeId} {x ix : Operand} {b off n c i : Nat} (hi : i < n) (hu : P.underlying T = some (.slice e)) (hs : (P.info? e).map (·.size) = some 1 := by kernel_rfl) (hg : zao E ⟨dst, .indexAddr T x ix, ty, pos, after, guard⟩ = some true := by rfl) (hx : ∀ t, evL ops E t L0 x = .slice (some ⟨b, off, none⟩) n c := by intro _; kernel_rfl) (hix : ∀ t, evL ops E t L0 ix = .int .i64 (i : Int) := by intro _; kernel_rfl) : StepTz P ops L0 E R ⟨dst, .indexAddr T x ix, ty, pos, after, guard⟩ (.k (.pointer (some ⟨b, off + i, none⟩))) := by
 have h := stjz (P := P) (R := R) 1 hi hu hs hg hx hix
 rwa [Nat.mul_one] at h
theorem sti0z {dst : Option Tmp} {ty : TypeId} {pos : String} {after : Array Edge} {guard : Option (Nat × Bool)} {T e : TypeId} {x ix : Operand} {b n c i : Nat} (hi : i < n) (hu : P.underlying T = some (.slice e)) (hs : (P.info? e).map (·.size) = some 1 := by kernel_rfl) (hg : zao E ⟨dst, .indexAddr T x ix, ty, pos, after, guard⟩ = some true := by rfl) (hx : ∀ t, evL ops E t L0 x = .slice (some ⟨b, 0, none⟩) n c := by intro _; kernel_rfl) (hix : ∀ t, evL ops E t L0 ix = .int .i64 (i : Int) := by intro _; kernel_rfl) : StepTz P ops L0 E R ⟨dst, .indexAddr T x ix, ty, pos, after, guard⟩ (.k (.pointer (some ⟨b, i, none⟩))) := by
 have h := stiz (P := P) (R := R) hi hu hs hg hx hix
 rwa [Nat.zero_add] at h
theorem sajz {dst : Option Tmp} {ty : TypeId} {pos : String} {after : Array Edge} {guard : Option (Nat × Bool)} {T e : TypeId} {x ix : Operand} {b off n i : Nat} (sz : Nat) (hi : i < n) (hu : P.underlying T = some (.array n e)) (hs : (P.info? e).map (·.size) = some sz := by kernel_rfl) (hg : zao E ⟨dst, .indexAddr T x ix, ty, pos, after, guard⟩ = some true := by rfl) (hx : ∀ t, evL ops E t L0 x = .pointer (some ⟨b, off, none⟩) := by intro _; kernel_rfl) (hix : ∀ t, evL ops E t L0 ix = .int .i64 (i : Int) := by intro _; kernel_rfl) : StepTz P ops L0 E R ⟨dst, .indexAddr T x ix, ty, pos, after, guard⟩ (.k (.pointer (some ⟨b, off + i * sz, none⟩))) := by
 refine stwz hg fun t wx _ => ?_
 obtain ⟨z, h1, h2⟩ := Option.map_eq_some_iff.1 hs
 simp only [execOp, hx t, hix t]
 simp [Instr.indexAt, Instr.sureAddr, run_underlying hu, asIntOf, sizeOf, typeInfo, h1, h2, hi, go_sem]
theorem saiz {dst : Option Tmp} {ty : TypeId} {pos : String} {after : Array Edge} {guard : Option (Nat × Bool)} {T e : TypeId} {x ix : Operand} {b off n i : Nat} (hi : i < n) (hu : P.underlying T = some (.array n e)) (hs : (P.info? e).map (·.size) = some 1 := by kernel_rfl) (hg : zao E ⟨dst, .indexAddr T x ix, ty, pos, after, guard⟩ = some true := by rfl) (hx : ∀ t, evL ops E t L0 x = .pointer (some ⟨b, off, none⟩) := by intro _; kernel_rfl) (hix : ∀ t, evL ops E t L0 ix = .int .i64 (i : Int) := by intro _; kernel_rfl) : StepTz P ops L0 E R ⟨dst, .indexAddr T x ix, ty, pos, after, guard⟩ (.k (.pointer (some ⟨b, off + i, none⟩))) := by
 have h := sajz (P := P) (R := R) 1 hi hu hs hg hx hix
 rwa [Nat.mul_one] at h
theorem stSz {dst : Option Tmp} {ty : TypeId} {pos : String} {after : Array Edge} {guard : Option (Nat × Bool)} {T : TypeId} {x y : Operand} {p : Addr} {v : Value} {e : Ent} (h :  ∀ (t : Nat -> Value) (wx : World), R wx -> (∃ o, wx.cell? p = some o) /\ wx.frozen? p = false /\ ResT E R e wx undef (wx.setCell p v)) (h1 : v.cells = #[v] := by rfl) (h2 : v.oneCell' = true := by rfl) (hs : (P.info? T).map (·.size) = some 1 := by kernel_rfl) (hg : zao E ⟨dst, .store T x y, ty, pos, after, guard⟩ = some true := by rfl) (hx : ∀ t, evL ops E t L0 x = .pointer (some p) := by intro _; kernel_rfl) (hy : ∀ t, evL ops E t L0 y = v := by intro _; kernel_rfl) : StepTz P ops L0 E R ⟨dst, .store T x y, ty, pos, after, guard⟩ e := by
 refine ⟨fun t wx hR _ => ?_⟩
 obtain ⟨⟨o, ho⟩, hf, hres⟩ := h t wx hR
 obtain ⟨z, hz1, hz2⟩ := Option.map_eq_some_iff.1 hs
 have hadd : p.add 0 = p := by simp [Addr.add]
 have hrun : (execOp (evL ops E t L0) ⟨dst, .store T x y, ty, pos, after, guard⟩).run P wx = .ok .skip (wx.setCell p v) := by
  simp only [execOp, hx t, hy t, Instr.storeAt, Instr.sureAddr, storeVar, h1]
  simp [storeCells, sizeOf, typeInfo, hz1, hz2, hadd, run_store _ _ _ _ _ h2, ho, hf, go_sem]
 rw [hg]
 dsimp only
 rw [hrun]
 exact hres
theorem stKz {f : FuncId} {fn : Func} {c : Code} {oas : Array Operand} {tys : Array TypeId} {dst : Option Tmp} {ty : TypeId} {pos : String} {after : Array Edge} {guard : Option (Nat × Bool)} {args : Array Value} {v : Value} (hR : ∀ w w', R w -> Old w w' -> R w') (hf : P.funcs[f]? = some fn) (h : ∀ (wx : World), R wx -> Calls P f args wx fun r w' => r = .returned v /\ Old wx w') (hg : zao E ⟨dst, .call ⟨.value (.func f), oas, tys⟩, ty, pos, after, guard⟩ = some true := by rfl) (hn : (fn.name == "runtime.NumGoroutine") = false := by decide) (hb : fn.body = some c := by rfl) (hx : ∀ t, oas.map (evL ops E t L0) = args := by intro _; kernel_rfl) : StepTz P ops L0 E R ⟨dst, .call ⟨.value (.func f), oas, tys⟩, ty, pos, after, guard⟩ (.k v) :=
 stkz hg hR (fun t wx => by rw [run_enterz hf hn hb, hx t]) h
end
end
section
open Go Go.RowKit
section
variable {P : Program} {ops : List Oper} {L0 : List Value} {E : List Ent} {R : World -> Prop} {o : Oper} {e : Ent}
theorem strz {dst : Option Tmp} {ty : TypeId} {pos : String} {after : Array Edge} {guard : Option (Nat × Bool)} {T T' : TypeId} {x y : Operand} {a b : Int} (ha : 0 <= a) (hb : 0 < b) (hg : zao E ⟨dst, .binOp .rem T x y T', ty, pos, after, guard⟩ = some true := by rfl) (hx : ∀ t, evL ops E t L0 x = .int .u64 a := by intro _; kernel_rfl) (hy : ∀ t, evL ops E t L0 y = .int .u64 b := by intro _; kernel_rfl) : StepTz P ops L0 E R ⟨dst, .binOp .rem T x y T', ty, pos, after, guard⟩ (.k (.int .u64 (a % b))) := by
 refine stwz hg fun t wx _ => ?_
 have h1 : ¬ b = 0 := by omega
 have h2 : a.tmod b = a % b := Int.tmod_eq_emod_of_nonneg ha
 simp only [execOp, hx t, hy t]
 simp [eqGuard, binOp, Op.intDiv, h1, h2, go_sem]
end
def eI (E : NI) (Rr : NN) (n i : Nat) : Nat -> Int := fun k =>
 if k < n then (if k < i then E k else 0)
 else if k < 2 * n then (if k - n < i then E k else 0)
 else if k < 3 * n then (if k - 2 * n < i then E k else 0)
 else if k < 4 * n then (if k - 3 * n < i then E k else 0)
 else if k < 5 * n then (if k - 4 * n < i then E k else 0)
 else if k < 6 * n then (if k - 5 * n < i then E k else 0)
 else if k < 7 * n - 1 then (if k - 6 * n + 1 < i then E k else 0)
 else if k < 7 * n then 0
 else Rr (k - 7 * n) i
def sett8 (F : NI) (p : Nat) (x : Int) : Nat -> Int := fun k => if k = p then x else F k
def midI (E : NI) (Rr : NN) (n i : Nat) : Nat -> Int := sett8 (sett8 (sett8 (sett8 (sett8 (sett8 (eI E Rr n i) i (E i)) (n + i) (E (n + i))) (2 * n + i) (E (2 * n + i))) (3 * n + i) (E (3 * n + i))) (4 * n + i) (E (4 * n + i))) (5 * n + i) (E (5 * n + i))
def eH (E : NI) (Rr : NN) (n i c : Nat) : Nat -> Int := fun k => if k < 7 * n then eI E Rr n (i + 1) k else if k < 7 * n + c then Rr (k - 7 * n) (i + 1) else Rr (k - 7 * n) i
section
variable {E : NI} {Rr : NN} {n i k : Nat}
theorem eI_last (h7 : ¬ k < 7 * n) : eI E Rr n i k = Rr (k - 7 * n) i := by
 unfold eI
 rw [if_neg (by omega), if_neg (by omega), if_neg (by omega), if_neg (by omega), if_neg (by omega), if_neg (by omega), if_neg (by omega), if_neg (by omega)]
theorem eI_same (h0 : k ≠ i) (h1 : k ≠ n + i) (h2 : k ≠ 2 * n + i) (h3 : k ≠ 3 * n + i) (h4 : k ≠ 4 * n + i) (h5 : k ≠ 5 * n + i) (h6 : 6 * n <= k -> k - 6 * n + 1 ≠ i) (h7 : k < 7 * n) : eI E Rr n i k = eI E Rr n (i + 1) k := by
 have hs : ∀ (p : Nat) (x : Int), p ≠ i -> (if p < i then x else 0) = (if p < i + 1 then x else 0) := fun p x hp => by
  by_cases h : p < i
  ·rw [if_pos h, if_pos (by omega)]
  ·rw [if_neg h, if_neg (by omega)]
 unfold eI
 by_cases c1 : k < n
 ·rw [if_pos c1, if_pos c1, hs k _ h0]
 rw [if_neg c1, if_neg c1]
 by_cases c2 : k < 2 * n
 ·rw [if_pos c2, if_pos c2, hs _ _ (by omega)]
 rw [if_neg c2, if_neg c2]
 by_cases c3 : k < 3 * n
 ·rw [if_pos c3, if_pos c3, hs _ _ (by omega)]
 rw [if_neg c3, if_neg c3]
 by_cases c4 : k < 4 * n
 ·rw [if_pos c4, if_pos c4, hs _ _ (by omega)]
 rw [if_neg c4, if_neg c4]
 by_cases c5 : k < 5 * n
 ·rw [if_pos c5, if_pos c5, hs _ _ (by omega)]
 rw [if_neg c5, if_neg c5]
 by_cases c6 : k < 6 * n
 ·rw [if_pos c6, if_pos c6, hs _ _ (by omega)]
 rw [if_neg c6, if_neg c6]
 by_cases c7 : k < 7 * n - 1
 ·rw [if_pos c7, if_pos c7, hs _ _ (h6 (by omega))]
 rw [if_neg c7, if_neg c7, if_pos h7, if_pos h7]
theorem eI_new (hi : i < n) : eI E Rr n (i + 1) i = E i /\ eI E Rr n (i + 1) (n + i) = E (n + i) /\ eI E Rr n (i + 1) (2 * n + i) = E (2 * n + i) /\ eI E Rr n (i + 1) (3 * n + i) = E (3 * n + i) /\ eI E Rr n (i + 1) (4 * n + i) = E (4 * n + i) /\ eI E Rr n (i + 1) (5 * n + i) = E (5 * n + i) /\ (0 < i -> eI E Rr n (i + 1) (6 * n + i - 1) = E (6 * n + i - 1)) := by
 unfold eI
 refine ⟨?_, ?_, ?_, ?_, ?_, ?_, fun h0 => ?_⟩
 ·rw [if_pos hi, if_pos (by omega)]
 ·rw [if_neg (by omega), if_pos (by omega), if_pos (by omega)]
 ·rw [if_neg (by omega), if_neg (by omega), if_pos (by omega), if_pos (by omega)]
 ·rw [if_neg (by omega), if_neg (by omega), if_neg (by omega), if_pos (by omega), if_pos (by omega)]
 ·rw [if_neg (by omega), if_neg (by omega), if_neg (by omega), if_neg (by omega), if_pos (by omega), if_pos (by omega)]
 ·rw [if_neg (by omega), if_neg (by omega), if_neg (by omega), if_neg (by omega), if_neg (by omega), if_pos (by omega), if_pos (by omega)]
 ·rw [if_neg (by omega), if_neg (by omega), if_neg (by omega), if_neg (by omega), if_neg (by omega), if_neg (by omega), if_pos (by omega), if_pos (by omega)]
theorem midI_at (hi : i < n) (h6 : k < 7 * n -> 6 * n <= k -> k - 6 * n + 1 ≠ i) : midI E Rr n i k = eH E Rr n i 0 k := by
 obtain ⟨a0, a1, a2, a3, a4, a5, _⟩ := eI_new (E := E) (Rr := Rr) hi
 unfold midI eH sett8
 by_cases c5 : k = 5 * n + i
 ·subst c5; rw [if_pos rfl, if_pos (by omega), a5]
 rw [if_neg c5]
 by_cases c4 : k = 4 * n + i
 ·subst c4; rw [if_pos rfl, if_pos (by omega), a4]
 rw [if_neg c4]
 by_cases c3 : k = 3 * n + i
 ·subst c3; rw [if_pos rfl, if_pos (by omega), a3]
 rw [if_neg c3]
 by_cases c2 : k = 2 * n + i
 ·subst c2; rw [if_pos rfl, if_pos (by omega), a2]
 rw [if_neg c2]
 by_cases c1 : k = n + i
 ·subst c1; rw [if_pos rfl, if_pos (by omega), a1]
 rw [if_neg c1]
 by_cases c0 : k = i
 ·subst c0; rw [if_pos rfl, if_pos (by omega), a0]
 rw [if_neg c0]
 by_cases h7 : k < 7 * n
 ·rw [if_pos h7]
  exact eI_same c0 c1 c2 c3 c4 c5 (h6 h7) h7
 ·rw [if_neg h7, if_neg (by omega), eI_last h7]
theorem midI_zero (hn : 0 < n) : midI E Rr n 0 k = eH E Rr n 0 0 k := midI_at hn fun _ h => by omega
theorem midI_pos (hi : i < n) (h0 : 0 < i) : sett8 (midI E Rr n i) (6 * n + i - 1) (E (6 * n + i - 1)) k = eH E Rr n i 0 k := by
 by_cases c6 : k = 6 * n + i - 1
 ·subst c6
  unfold sett8 eH
  rw [if_pos rfl, if_pos (by omega), (eI_new (E := E) (Rr := Rr) hi).2.2.2.2.2.2 h0]
 ·show (if k = 6 * n + i - 1 then _ else midI E Rr n i k) = _
  rw [if_neg c6]
  exact midI_at hi fun _ _ => by omega
theorem eH_next {c : Nat} : sett8 (eH E Rr n i c) (7 * n + c) (Rr c (i + 1)) k = eH E Rr n i (c + 1) k := by
 unfold sett8 eH
 by_cases h : k = 7 * n + c
 ·subst h
  rw [if_pos rfl, if_neg (by omega), if_pos (by omega), show 7 * n + c - 7 * n = c by omega]
 ·rw [if_neg h]
  by_cases h7 : k < 7 * n
  ·rw [if_pos h7, if_pos h7]
  ·rw [if_neg h7, if_neg h7]
   by_cases h8 : k < 7 * n + c
   ·rw [if_pos h8, if_pos (by omega)]
   ·rw [if_neg h8, if_neg (by omega)]
theorem eH_at {c : Nat} : eH E Rr n i c (7 * n + c) = Rr c i := by
 unfold eH
 rw [if_neg (by omega), if_neg (by omega), show 7 * n + c - 7 * n = c by omega]
theorem eH_done (hk : k < 7 * n + 3) : eH E Rr n i 3 k = eI E Rr n (i + 1) k := by
 unfold eH
 by_cases h7 : k < 7 * n
 ·rw [if_pos h7]
 ·rw [if_neg h7, if_pos hk, eI_last h7]
theorem eI_zero (hR : ∀ w, Rr w 0 = 0) : eI E Rr n 0 k = 0 := by
 by_cases h7 : k < 7 * n
 ·unfold eI
  simp only [Nat.not_lt_zero, if_false, if_pos h7, ite_self]
 ·rw [eI_last h7, hR]
theorem eI_done (hn : 0 < n) (hE : ∀ w, w < 3 -> Rr w n = E (7 * n + w)) (hk : k < 7 * n + 3) : sett8 (eI E Rr n n) (7 * n - 1) (E (7 * n - 1)) k = E k := by
 unfold sett8
 by_cases h : k = 7 * n - 1
 ·subst h; rw [if_pos rfl]
 rw [if_neg h]
 by_cases h7 : k < 7 * n
 ·unfold eI
  by_cases c1 : k < n
  ·rw [if_pos c1, if_pos c1]
  rw [if_neg c1]
  by_cases c2 : k < 2 * n
  ·rw [if_pos c2, if_pos (by omega)]
  rw [if_neg c2]
  by_cases c3 : k < 3 * n
  ·rw [if_pos c3, if_pos (by omega)]
  rw [if_neg c3]
  by_cases c4 : k < 4 * n
  ·rw [if_pos c4, if_pos (by omega)]
  rw [if_neg c4]
  by_cases c5 : k < 5 * n
  ·rw [if_pos c5, if_pos (by omega)]
  rw [if_neg c5]
  by_cases c6 : k < 6 * n
  ·rw [if_pos c6, if_pos (by omega)]
  rw [if_neg c6, if_pos (by omega), if_pos (by omega)]
 ·rw [eI_last h7, hE _ (by omega), show 7 * n + (k - 7 * n) = k by omega]
end
theorem exF_at {Q X Y Z : Int} {n : Nat} {o : Nat -> Nat} {R S T : NI} {Rho : NN} {i : Nat} (hi : i < n) : exF Q X Y Z n o R S T Rho i = ((o i : Int) + 1) % Q /\ exF Q X Y Z n o R S T Rho (n + i) = R i % Q /\ exF Q X Y Z n o R S T Rho (2 * n + i) = bE Q X o i /\ exF Q X Y Z n o R S T Rho (3 * n + i) = S i % Q /\ exF Q X Y Z n o R S T Rho (4 * n + i) = dE Q X Y Z o i /\ exF Q X Y Z n o R S T Rho (5 * n + i) = uE Q Y R S i /\ (0 < i -> exF Q X Y Z n o R S T Rho (6 * n + i - 1) = T i % Q) := by
 unfold exF
 refine ⟨?_, ?_, ?_, ?_, ?_, ?_, fun h0 => ?_⟩
 ·rw [if_pos hi]
 ·rw [if_neg (by omega), if_pos (by omega), show n + i - n = i by omega]
 ·rw [if_neg (by omega), if_neg (by omega), if_pos (by omega), show 2 * n + i - 2 * n = i by omega]
 ·rw [if_neg (by omega), if_neg (by omega), if_neg (by omega), if_pos (by omega), show 3 * n + i - 3 * n = i by omega]
 ·rw [if_neg (by omega), if_neg (by omega), if_neg (by omega), if_neg (by omega), if_pos (by omega), show 4 * n + i - 4 * n = i by omega]
 ·rw [if_neg (by omega), if_neg (by omega), if_neg (by omega), if_neg (by omega), if_neg (by omega), if_pos (by omega), show 5 * n + i - 5 * n = i by omega]
 ·rw [if_neg (by omega), if_neg (by omega), if_neg (by omega), if_neg (by omega), if_neg (by omega), if_neg (by omega), if_pos (by omega), show 6 * n + i - 1 - 6 * n + 1 = i by omega]
theorem exF_end {Q X Y Z : Int} {n : Nat} {o : Nat -> Nat} {R S T : NI} {Rho : NN} (hn : 0 < n) : exF Q X Y Z n o R S T Rho (7 * n - 1) = vE Q X Y Z o R S T (n - 1) /\ ∀ w, w < 3 -> rhoE Q X o Rho w n = exF Q X Y Z n o R S T Rho (7 * n + w) := by
 unfold exF
 refine ⟨?_, fun w hw => ?_⟩
 ·rw [if_neg (by omega), if_neg (by omega), if_neg (by omega), if_neg (by omega), if_neg (by omega), if_neg (by omega), if_neg (by omega), if_pos rfl]
 ·rw [if_neg (by omega), if_neg (by omega), if_neg (by omega), if_neg (by omega), if_neg (by omega), if_neg (by omega), if_neg (by omega), if_neg (by omega), show 7 * n + w - 7 * n = w by omega]
def vP (Q X Y Z : Int) (o : Nat -> Nat) (R S T : NI) : Nat -> Int
 | 0 => 0
 | i + 1 => vE Q X Y Z o R S T i
theorem vP_next {Q X Y Z : Int} {o : Nat -> Nat} {R S T : NI} : ∀ {i : Nat}, 0 < i -> vP Q X Y Z o R S T (i + 1) = addI (mulI (vP Q X Y Z o R S T i) (dE Q X Y Z o i) Q) (T i) Q
 | 0, h => absurd h (Nat.lt_irrefl 0)
 | i + 1, _ => rfl
end
section
open Go Go.RowKit
structure ClV (W : World) (s N : Nat) (T : NI) (Bs : NN) (i k : Nat) (v u : Value) (bk : Nat -> Nat) (w : World) : Prop where
 ly : Ly W s N [] T Bs i k v u bk w
 row : w.heap[s]? = some (.cells #[v, u] 50 (0, 0))
structure Fr (s k : Nat) (v u : Value) (bk : Nat -> Nat) (b : Nat) : Prop where
 v : v.ownBlock ≠ some b
 u : u.ownBlock ≠ some b
 k : ∀ j, j < k -> bk j ≠ b
 s : s + 1 <= b
def ClY (W : World) (s N : Nat) (T : NI) (Bs : NN) (k : Nat) (w : World) : Prop := ∃ v u bk, ClV W s N T Bs k k v u bk w
section
variable {W w w' : World} {s N : Nat} {T : NI} {Bs : NN} {i k : Nat} {v u : Value} {bk : Nat -> Nat} {b : Nat} {F : NI}
theorem ClV.old' (h : ClV W s N T Bs i k v u bk w) (ho : Old w w') : ClV W s N T Bs i k v u bk w' := ⟨h.ly.old' ho, (ho.block _ h.ly.big).trans h.row⟩
theorem ClY.old' (h : ClY W s N T Bs k w) (ho : Old w w') : ClY W s N T Bs k w' := let ⟨v, u, bk, h⟩ := h; ⟨v, u, bk, h.old' ho⟩
theorem ClY.old (h : ClY W s N T Bs k w) : Old W w := let ⟨_, _, _, h⟩ := h; h.ly.old
theorem ClV.y (h : ClV W s N T Bs k k v u bk w) : ClY W s N T Bs k w := ⟨v, u, bk, h⟩
theorem ClV.fr (h : ClV W s N T Bs i k v u bk w) (hb : w.heap.size <= b) : Fr s k v u bk b := by
 refine ⟨fun he => ?_, fun he => ?_, fun j hj he => ?_, ?_⟩
 ·have := (World.ownsRow.lt h.ly.nums b he).2; omega
 ·have := (World.ownsRow.lt h.ly.own b he).2; omega
 ·have := (h.ly.full j hj).2.lt; omega
 ·have := h.ly.big; omega
theorem ClV.c0 (h : ClV W s N T Bs i k v u bk w) : w.cell? ⟨s, 0, none⟩ = some v := cell_of_row _ _ 0 _ _ (0, 0) h.row
theorem ClV.c1 (h : ClV W s N T Bs i k v u bk w) : w.cell? ⟨s, 1, none⟩ = some u := cell_of_row _ _ 1 _ _ (0, 0) h.row
theorem Ly.tgtn {m g cap : Nat} (h : Ly W s N [] T Bs i k v u bk w) (hown : w'.ownsRow (s + 1) 22 1 (.slice (some ⟨g, 0, none⟩) (i + m) cap) (i + m) ((List.range (i + m)).map (fun j => Value.int .u64 (T j)))) (hg : w.grownBy w' v.ownBlock) (hat : v.ownBlock = some g ∨ g = w.heap.size) : Ly W s N [] T Bs (i + m) k (.slice (some ⟨g, 0, none⟩) (i + m) cap) u bk w' := by
 have hu := World.ownsRow.lt h.own
 refine ⟨h.old.grown hg fun b hb => ?_, h.ws, Nat.le_trans h.big hg.size, hown, h.own.kept hg ?_, fun j hj => ⟨(h.full j hj).1, (h.full j hj).2.grown hg (h.s1 j hj)⟩, h.inj, fun j hj he => ?_, h.s2, Or.inr fun he => ?_, fun e he => absurd he (by simp)⟩
 ·have := (World.ownsRow.lt h.nums b hb).1; have := h.ws; omega
 ·rcases h.s3 with h3 | h3
  ·rw [h3]; cases hx : u.ownBlock
   ·exact Or.inl rfl
   ·exact Or.inr (by simp)
  ·exact Or.inr h3
 ·have he' : g = bk j := by simpa [Value.ownBlock] using he
  rcases hat with h1 | h1
  ·exact h.s1 j hj (by rw [h1, he'])
  ·have := (h.full j hj).2.lt; omega
 ·have he' : u.ownBlock = some g := he
  rcases hat with h1 | h1
  ·rcases h.s3 with h3 | h3
   ·rw [h3] at h1; cases h1
   ·exact h3 (by rw [he', h1])
  ·have := (hu g he').2; omega
theorem ClV.tgtn {m g cap : Nat} (h : ClV W s N T Bs i k v u bk w) (hown : w'.ownsRow (s + 1) 22 1 (.slice (some ⟨g, 0, none⟩) (i + m) cap) (i + m) ((List.range (i + m)).map (fun j => Value.int .u64 (T j)))) (hg : w.grownBy w' v.ownBlock) (hat : v.ownBlock = some g ∨ g = w.heap.size) :
  w'.cell? ⟨s, 0, none⟩ = some v /\ w'.frozen? ⟨s, 0, none⟩ = false /\ ClV W s N T Bs (i + m) k (.slice (some ⟨g, 0, none⟩) (i + m) cap) u bk (w'.setCell ⟨s, 0, none⟩ (.slice (some ⟨g, 0, none⟩) (i + m) cap)) := by
 have hr : w'.heap[s]? = some (.cells #[v, u] 50 (0, 0)) := by
  rw [hg.block s (by have := h.ly.big; omega) (fun e => by have := (World.ownsRow.lt h.ly.nums _ e.symm).1; omega)]
  exact h.row
 refine ⟨cell_of_row _ _ 0 _ _ (0, 0) hr, zac hr 0, (h.ly.tgtn hown hg hat).set 0 _, ?_⟩
 have := zaq hr 0 (.slice (some ⟨g, 0, none⟩) (i + m) cap)
 simpa using this
theorem Fr.tgt {n m g cap : Nat} (h : Fr s k v u bk b) (hg : w.grownBy w' v.ownBlock) (hat : v.ownBlock = some g ∨ g = w.heap.size) (hF : Full w b n F) : Fr s k (.slice (some ⟨g, 0, none⟩) m cap) u bk b /\ ∀ x j, Full (w'.setCell ⟨s, j, none⟩ x) b n F := by
 refine ⟨⟨fun he => ?_, h.u, h.k, h.s⟩, fun x j => (hF.grown hg h.v).other (p := ⟨s, j, none⟩) (by have := h.s; show b ≠ s; omega) _⟩
 have he' : g = b := by simpa [Value.ownBlock] using he
 rcases hat with h1 | h1
 ·exact h.v (by rw [h1, he'])
 ·have := hF.lt; omega
theorem ClV.bas {g cap : Nat} (h : ClV W s N T Bs i k v u bk w) (hf : Fr s k v u bk b) (hF : Full w b N F) (he : ∀ q, q < N -> F q = Bs k q) (hown : w'.ownsRow (s + 1) 29 1 (.slice (some ⟨g, 0, none⟩) (k + 1) cap) (k + 1) ((List.range k).map (fun j => Value.slice (some ⟨bk j, 0, none⟩) N N) ++ [.slice (some ⟨b, 0, none⟩) N N])) (hg : w.grownBy w' u.ownBlock) (hat : u.ownBlock = some g ∨ g = w.heap.size) :
  w'.cell? ⟨s, 1, none⟩ = some u /\ w'.frozen? ⟨s, 1, none⟩ = false /\ ClV W s N T Bs i (k + 1) v (.slice (some ⟨g, 0, none⟩) (k + 1) cap) (fun j => if j = k then b else bk j) (w'.setCell ⟨s, 1, none⟩ (.slice (some ⟨g, 0, none⟩) (k + 1) cap)) := by
 have hr : w'.heap[s]? = some (.cells #[v, u] 50 (0, 0)) := by
  rw [hg.block s (by have := h.ly.big; omega) (fun e => by have := (World.ownsRow.lt h.ly.own _ e.symm).1; omega)]
  exact h.row
 refine ⟨cell_of_row _ _ 1 _ _ (0, 0) hr, zac hr 1, (h.ly.bas hf.s (hF.congr he) hf.v hf.u hf.k (fun e he => absurd he (by simp)) hown hg hat).set 1 _, ?_⟩
 have := zaq hr 1 (.slice (some ⟨g, 0, none⟩) (k + 1) cap)
 simpa using this
theorem Ly.bas2 {b1 b2 g cap : Nat} (h : Ly W s N [] T Bs i k v u bk w) (h1 : Fr s k v u bk b1) (h2 : Fr s k v u bk b2) (hne : b1 ≠ b2) (hF1 : Full w b1 N (Bs k)) (hF2 : Full w b2 N (Bs (k + 1))) (hown : w'.ownsRow (s + 1) 29 1 (.slice (some ⟨g, 0, none⟩) (k + 2) cap) (k + 2) ((List.range k).map (fun j => Value.slice (some ⟨bk j, 0, none⟩) N N) ++ [.slice (some ⟨b1, 0, none⟩) N N, .slice (some ⟨b2, 0, none⟩) N N])) (hg : w.grownBy w' u.ownBlock) (hat : u.ownBlock = some g ∨ g = w.heap.size) :
  Ly W s N [] T Bs i (k + 2) v (.slice (some ⟨g, 0, none⟩) (k + 2) cap) (fun j => if j = k then b1 else if j = k + 1 then b2 else bk j) w' := by
 have hv := World.ownsRow.lt h.nums
 have hcase : ∀ j, j < k + 2 -> (j = k /\ (if j = k then b1 else if j = k + 1 then b2 else bk j) = b1) ∨ (j = k + 1 /\ (if j = k then b1 else if j = k + 1 then b2 else bk j) = b2) ∨ (j < k /\ (if j = k then b1 else if j = k + 1 then b2 else bk j) = bk j) := fun j hj => by
  by_cases e1 : j = k
  ·exact Or.inl ⟨e1, if_pos e1⟩
  ·by_cases e2 : j = k + 1
   ·exact Or.inr (Or.inl ⟨e2, by rw [if_neg e1, if_pos e2]⟩)
   ·exact Or.inr (Or.inr ⟨by omega, by rw [if_neg e1, if_neg e2]⟩)
 refine ⟨h.old.grown hg fun c hc => ?_, h.ws, Nat.le_trans h.big hg.size, World.ownsRow.kept h.nums hg ?_, ?_, fun j hj => ?_, fun p q hp hq he => ?_, fun j hj he => ?_, fun j hj he => ?_, ?_, fun e he => absurd he (by simp)⟩
 ·have := (World.ownsRow.lt h.own c hc).1; have := h.ws; omega
 ·rcases h.s3 with h3 | h3
  ·exact Or.inl h3
  ·exact Or.inr (Ne.symm h3)
 ·have e : (List.range (k + 2)).map (fun j => Value.slice (some ⟨if j = k then b1 else if j = k + 1 then b2 else bk j, 0, none⟩) N N) = (List.range k).map (fun j => Value.slice (some ⟨bk j, 0, none⟩) N N) ++ [.slice (some ⟨b1, 0, none⟩) N N, .slice (some ⟨b2, 0, none⟩) N N] := by
   rw [show k + 2 = (k + 1) + 1 from rfl, List.range_succ, List.map_append, List.range_succ, List.map_append, List.append_assoc]
   congr 1
   ·refine List.map_congr_left fun j hj => ?_
    have := List.mem_range.1 hj
    rw [if_neg (by omega), if_neg (by omega)]
   ·simp
  rw [e]
  exact hown
 ·rcases hcase j hj with ⟨rfl, e⟩ | ⟨rfl, e⟩ | ⟨hj', e⟩
  ·rw [e]; exact ⟨h1.s, hF1.grown hg h1.u⟩
  ·rw [e]; exact ⟨h2.s, hF2.grown hg h2.u⟩
  ·rw [e]; exact ⟨(h.full j hj').1, (h.full j hj').2.grown hg (h.s2 j hj')⟩
 ·rcases hcase p hp with ⟨rfl, e⟩ | ⟨rfl, e⟩ | ⟨hp', e⟩ <;> rcases hcase q hq with ⟨h4, e'⟩ | ⟨h4, e'⟩ | ⟨hq', e'⟩ <;> rw [e, e'] at he
  ·exact h4.symm
  ·exact absurd he hne
  ·exact absurd he.symm (h1.k q hq')
  ·exact absurd he.symm hne
  ·exact h4.symm
  ·exact absurd he.symm (h2.k q hq')
  ·exact absurd he (h1.k p hp')
  ·exact absurd he (h2.k p hp')
  ·exact h.inj p q hp' hq' he
 ·rcases hcase j hj with ⟨rfl, e⟩ | ⟨rfl, e⟩ | ⟨hj', e⟩ <;> rw [e] at he
  ·exact h1.v he
  ·exact h2.v he
  ·exact h.s1 j hj' he
 ·have he' : g = if j = k then b1 else if j = k + 1 then b2 else bk j := by simpa [Value.ownBlock] using he
  rcases hcase j hj with ⟨rfl, e⟩ | ⟨rfl, e⟩ | ⟨hj', e⟩ <;> rw [e] at he' <;> rcases hat with h5 | h5
  ·exact h1.u (by rw [h5, he'])
  ·have := hF1.lt; omega
  ·exact h2.u (by rw [h5, he'])
  ·have := hF2.lt; omega
  ·exact h.s2 j hj' (by rw [h5, he'])
  ·have := (h.full j hj').2.lt; omega
 ·cases hvo : v.ownBlock with
  | none => exact Or.inl rfl
  | some c =>
   refine Or.inr fun he => ?_
   have he' : g = c := by simpa [Value.ownBlock] using he
   have hc := (hv c hvo).2
   rcases hat with h5 | h5
   ·rcases h.s3 with h3 | h3
    ·rw [h3] at hvo; cases hvo
    ·exact h3 (by rw [h5, hvo, he'])
   ·omega
theorem ClV.bas2 {b1 b2 g cap : Nat} {F1 F2 : NI} (h : ClV W s N T Bs i k v u bk w) (h1 : Fr s k v u bk b1) (h2 : Fr s k v u bk b2) (hne : b1 ≠ b2) (hF1 : Full w b1 N F1) (hF2 : Full w b2 N F2) (he1 : ∀ q, q < N -> F1 q = Bs k q) (he2 : ∀ q, q < N -> F2 q = Bs (k + 1) q) (hown : w'.ownsRow (s + 1) 29 1 (.slice (some ⟨g, 0, none⟩) (k + 2) cap) (k + 2) ((List.range k).map (fun j => Value.slice (some ⟨bk j, 0, none⟩) N N) ++ [.slice (some ⟨b1, 0, none⟩) N N, .slice (some ⟨b2, 0, none⟩) N N])) (hg : w.grownBy w' u.ownBlock) (hat : u.ownBlock = some g ∨ g = w.heap.size) :
  w'.cell? ⟨s, 1, none⟩ = some u /\ w'.frozen? ⟨s, 1, none⟩ = false /\ ClV W s N T Bs i (k + 2) v (.slice (some ⟨g, 0, none⟩) (k + 2) cap) (fun j => if j = k then b1 else if j = k + 1 then b2 else bk j) (w'.setCell ⟨s, 1, none⟩ (.slice (some ⟨g, 0, none⟩) (k + 2) cap)) := by
 have hr : w'.heap[s]? = some (.cells #[v, u] 50 (0, 0)) := by
  rw [hg.block s (by have := h.ly.big; omega) (fun e => by have := (World.ownsRow.lt h.ly.own _ e.symm).1; omega)]
  exact h.row
 refine ⟨cell_of_row _ _ 1 _ _ (0, 0) hr, zac hr 1, (h.ly.bas2 h1 h2 hne (hF1.congr he1) (hF2.congr he2) hown hg hat).set 1 _, ?_⟩
 have := zaq hr 1 (.slice (some ⟨g, 0, none⟩) (k + 2) cap)
 simpa using this
theorem ClY.new (hs : W.heap.size <= s) (ho : Old W w) (hr : w.heap[s]? = some (.cells #[.slice none 0 0, .slice none 0 0] 50 (0, 0))) : ClY W s N T Bs 0 w :=
 ⟨.slice none 0 0, .slice none 0 0, fun _ => 0, ⟨ho, hs, by have := zah hr; omega, zaD _ _ _, World.ownsRow_nil _ _ _ _, fun j hj => by omega, fun i j hi => by omega, fun j hj => by omega, fun j hj => by omega, Or.inl rfl, fun e he => absurd he (by simp)⟩, hr⟩
theorem ClY.claim (h : ClY W s N T Bs k w) (hN : N <= 9223372036854775807) : ∃ v u, w.heap[s]? = some (.cells #[v, u] 50 (0, 0)) /\ Nums w (s + 1) v k T /\ Rws w (s + 1) u k (fun _ => N) Bs :=
 let ⟨v, u, bk, h⟩ := h; ⟨v, u, h.row, h.ly.nums, fun j => some ⟨bk j, 0, none⟩, fun _ => N, h.ly.own, fun j hj => (h.ly.full j hj).2.nums (h.ly.full j hj).1 hN⟩
def Row1 (w0 : World) (b N p : Nat) (w : World) : Prop := Old w0 w /\ ∃ c, Full w b N (fun r => if r = p then c else 1)
theorem Row1.old {w0 : World} {b N p : Nat} (w w' : World) (h : Row1 w0 b N p w) (ho : Old w w') : Row1 w0 b N p w' := ⟨h.1.trans ho, let ⟨c, h⟩ := h.2; ⟨c, h.old ho⟩⟩
theorem Row1.of {w0 : World} {p : Nat} (ho : Old w0 w) (h : Full w b N (fun _ => 1)) : Row1 w0 b N p w := ⟨ho, 1, h.congr fun r _ => by simp⟩
def zcJ (b N p : Nat) (x : Int) : Ent := .u (fun _ w => Full w b N (fun r => if r = p then x else 1)) fun _ _ _ h ho => h.old ho
theorem row_stS {w0 : World} {E : List Ent} {j p : Nat} {x : Int} (hk : zdY E j = true) (hE : E[j]? = some (zcJ b N p x)) (hp : p < N) (hb : w0.heap.size <= b) (wx : World) (h : Row1 w0 b N p wx) :
  (∃ o, wx.cell? ⟨b, p, none⟩ = some o) /\ wx.frozen? ⟨b, p, none⟩ = false /\ ResT E (Row1 w0 b N p) (zcJ b N p x) wx undef (wx.setCell ⟨b, p, none⟩ (.int .u64 x)) := by
 obtain ⟨ho, c, hF⟩ := h
 have hn : Full (wx.setCell ⟨b, p, none⟩ (.int .u64 x)) b N (fun r => if r = p then x else 1) := (hF.set p x).congr fun r _ => by
  by_cases h1 : r = p <;> simp [h1]
 exact ⟨⟨_, hF.cell p hp⟩, hF.free p, zdp hk hE ⟨ho.setCell (p := ⟨b, p, none⟩) hb _, x, hn⟩ fun _ => hn⟩
theorem zcr {p q : Nat} {x z : Int} (hF : Full w b N (fun r => if r = p then x else 1)) (hpq : p ≠ q) : Full (w.setCell ⟨b, q, none⟩ (.int .u64 z)) b N (row28 p x q z) := (hF.set q z).congr fun r _ => by
 unfold row28
 by_cases h1 : r = q
 ·subst h1; simp [Ne.symm hpq]
 ·simp [h1]
end
end
section
open Go.RowKit
theorem zc1 (P Q G H : Int) (a : OA) (n cap : Nat) (b : OA) (m c : Nat) (C : NN) (w : World) (h4 : Four P Q G H) (mm : m <= 9223372036854775807) (h : BoxsIn w b m C) :
  Calls prog 54 #[gv P Q G H a n cap, .slice b m c] w (Ret w (.bool (batB P Q m C))) := by
 have HX : Hid (BoxsIn w b m C) := h
 have HI : Hid (∀ x r wx, U64 x -> inI P Q x = r -> Calls prog 55 #[gv P Q G H a n cap, .int .u64 x] wx (Ret wx (.bool r))) := fun x r wx hx hr => by
  have := zdD P Q G H x a n cap wx h4.q0 h4.q1 hx.2
  rw [hr] at this
  exact this
 have HZ := lain1 w (gc P Q G H a n cap) 25
 have HG0 := fun w' ho => (HZ.then (W' := w') ho).row 0 (by simp)
 have HW0 : Hid (Old w (w.alloc (.cells (gc P Q G H a n cap) 25))) := HZ.old
 clear HZ h h4
 by_cases h1 : 1 <= m
 rotate_left
 ·have HV : Hid (batB P Q m C = false) := no_of fun hc => h1 (zaK.1 hc).1.1
  have h0 : m = 0 := by omega
  subst h0
  go_enter func54, ntmps54
  go_upto_region 1 with fail
  generalize w.alloc (.cells (gc P Q G H a n cap) 25) = W at *
  go_wp2_with fail
  go_ret
  exact ⟨zad HV.out.symm, HW0.out⟩
 by_cases h8 : m <= 8
 rotate_left
 ·have HV : Hid (batB P Q m C = false) := no_of fun hc => h8 (zaK.1 hc).1.2
  have k1 : ¬ (m : Int) < 1 := by omega
  have k2 : (8 : Int) < (m : Int) := by omega
  clear h1 h8
  go_enter func54, ntmps54
  go_upto_region 1 with fail
  generalize w.alloc (.cells (gc P Q G H a n cap) 25) = W at *
  go_wp2_with fail
  go_ret
  exact ⟨zad HV.out.symm, HW0.out⟩
 have k1 : ¬ (m : Int) < 1 := by omega
 have k2 : ¬ (8 : Int) < (m : Int) := by omega
 have H18 : Hid (1 <= m /\ m <= 8) := ⟨h1, h8⟩
 go_enter func54, ntmps54
 go_upto_region 1 with fail
 generalize w.alloc (.cells (gc P Q G H a n cap) 25) = W at *
 obtain ⟨gb, hgb⟩ : ∃ gb, gb = w.heap.size := ⟨_, rfl⟩
 have HG : Hid (∀ wx, Old W wx -> wx.heap[gb]? = some (.cells (gc P Q G H a n cap) 25 (0, 0))) := by rw [hgb]; exact HG0
 rw [<- hgb]
 clear hgb HG0
 go_wp2_with fail
 go_loopw [5] (fun iv wx => ∃ i : Nat, iv = .int .i64 (i : Int) /\ i <= m /\ Hid (Old W wx) /\ Hid (∀ j, j < i -> ∀ k, k < 6 -> inI P Q (C j k) = true)) (fun iv _ => m - (intOf iv).toNat)
 case atStart => exact ⟨0, rfl, Nat.zero_le _, Old.refl _, fun j hj => by omega⟩
 case round =>
  obtain ⟨i, rfl, hi, HO, HJ⟩ := hrel
  by_cases hlt : i < m
  ·go_upto_region 7 with fail
   go_loopw [6] (fun kv wx => ∃ k : Nat, kv = .int .i64 (k : Int) /\ k <= 3 /\ Hid (Old W wx) /\ Hid (∀ q, q < 2 * k -> inI P Q (C i q) = true)) (fun kv _ => 3 - (intOf kv).toNat)
   case atStart => exact ⟨0, rfl, Nat.zero_le _, HO, fun q hq => by omega⟩
   case round =>
    obtain ⟨k, rfl, hk, HO2, HK⟩ := hrel
    by_cases hkl : k < 3
    ·have k3 : (k : Int) < 3 := by omega
     rcases HX.out with h0 | ⟨bx, ox, hqx, _, hrx⟩
     ·omega
     have HU : Hid (∀ wx, Old wr wx -> wx.cell? ⟨bx, ox + i * 6 + k * 2, none⟩ = some (.int .u64 (C i (2 * k)))) := fun wx ho => by
      have := (((HW0.out.trans HO2.out).trans ho)).cellOf (hrx i hlt (2 * k) (by omega)).1
      rwa [show ox + i * 6 + 2 * k = ox + i * 6 + k * 2 by omega] at this
     have HV : Hid (∀ wx, Old wr wx -> wx.cell? ⟨bx, ox + i * 6 + k * 2 + 1, none⟩ = some (.int .u64 (C i (2 * k + 1)))) := fun wx ho => by
      have := (((HW0.out.trans HO2.out).trans ho)).cellOf (hrx i hlt (2 * k + 1) (by omega)).1
      rwa [show ox + i * 6 + (2 * k + 1) = ox + i * 6 + k * 2 + 1 by omega] at this
     have HUu : Hid (U64 (C i (2 * k)) /\ U64 (C i (2 * k + 1))) := ⟨(hrx i hlt (2 * k) (by omega)).2, (hrx i hlt (2 * k + 1) (by omega)).2⟩
     have HGr : Hid (∀ wx, Old wr wx -> wx.heap[gb]? = some (.cells (gc P Q G H a n cap) 25 (0, 0))) := fun wx ho => HG.out wx (HO2.out.trans ho)
     clear hrx
     subst hqx
     cases hu : inI P Q (C i (2 * k)) with
     | false =>
      have HIu : Hid (inI P Q (C i (2 * k)) = false) := hu
      have HN : Hid (batB P Q m C = false) := no_of fun hc => by have := (zaK.1 hc).2 i hlt (2 * k) (by omega); rw [hu] at this; cases this
      clear hu
      generalize C i (2 * k) = xu at *
      generalize C i (2 * k + 1) = xv at *
      go_upto_region 9 with fail
      refine zaa 22 [.k (gv P Q G H a n cap), .k (.slice (some ⟨bx, ox, none⟩) m c), .k (.int .i64 (i : Int)), .k (.int .i64 (k : Int)), .k (.pointer (some ⟨bx, ox + i * 6, none⟩)), .k (.pointer (some ⟨bx, ox + i * 6 + k * 2, none⟩)), .k (.pointer (some ⟨bx, ox + i * 6 + k * 2, none⟩)), .k (.int .u64 xu), .k (.bool false), .k (.bool true), .k (.bool true), .k undef, .k undef, .k undef, .k undef, .k undef, .k undef, .k undef, .k undef, .k undef, .k undef, .k (.bool true)] (Old wr) (by kernel_rfl) (by kernel_rfl) rfl ((Old.refl _).drew) ?st ?_
      case st =>
       refine .c (sts underlying25 HGr.out) <| .c stp <| .c stp <| .c stp <| .c (stj (n := m) (c := c) 6 hlt underlying26) <| .c (saj 2 hkl underlying74) <| .c stp <| .c (stl underlying22 HU.out) <| .c (stK old_R func55 (fun wy _ => HI.out xu false wy HUu.out.1 HIu.out)) <| .c stp <| .c stp <| .c stn <| .c stn <| .c stn <| .c stn <| .c stn <| .c stn <| .c stn <| .c stn <| .c stn <| .c stn <| .c stp .n
      intro t wz hR hk2
      simp only [fill, Ent.val, List.set_cons_zero, List.set_cons_succ, List.drop_succ_cons, List.drop_zero, List.drop_nil]
      have HO3 : Hid (Old W wz) := HO2.out.trans hR
      clear hR hk2
      go_wp2_with fail
      go_ret
      exact ⟨zad HN.out.symm, HW0.out.trans HO3.out⟩
     | true =>
      have HIu : Hid (inI P Q (C i (2 * k)) = true) := hu
      clear hu
      cases hv : inI P Q (C i (2 * k + 1)) with
      | false =>
       have HIv : Hid (inI P Q (C i (2 * k + 1)) = false) := hv
       have HN : Hid (batB P Q m C = false) := no_of fun hc => by have := (zaK.1 hc).2 i hlt (2 * k + 1) (by omega); rw [hv] at this; cases this
       clear hv
       generalize C i (2 * k) = xu at *
       generalize C i (2 * k + 1) = xv at *
       go_upto_region 9 with fail
       refine zaa 22 [.k (gv P Q G H a n cap), .k (.slice (some ⟨bx, ox, none⟩) m c), .k (.int .i64 (i : Int)), .k (.int .i64 (k : Int)), .k (.pointer (some ⟨bx, ox + i * 6, none⟩)), .k (.pointer (some ⟨bx, ox + i * 6 + k * 2, none⟩)), .k (.pointer (some ⟨bx, ox + i * 6 + k * 2, none⟩)), .k (.int .u64 xu), .k (.bool true), .k (.bool false), .k (.bool false), .k (gv P Q G H a n cap), .k (.slice (some ⟨bx, ox, none⟩) m c), .k (.int .i64 (i : Int)), .k (.int .i64 (k : Int)), .k (.pointer (some ⟨bx, ox + i * 6, none⟩)), .k (.pointer (some ⟨bx, ox + i * 6 + k * 2, none⟩)), .k (.pointer (some ⟨bx, ox + i * 6 + k * 2 + 1, none⟩)), .k (.int .u64 xv), .k (.bool false), .k (.bool true), .k (.bool true)] (Old wr) (by kernel_rfl) (by kernel_rfl) rfl ((Old.refl _).drew) ?st ?_
       case st =>
        refine .c (sts underlying25 HGr.out) <| .c stp <| .c stp <| .c stp <| .c (stj (n := m) (c := c) 6 hlt underlying26) <| .c (saj 2 hkl underlying74) <| .c stp <| .c (stl underlying22 HU.out) <| .c (stK old_R func55 (fun wy _ => HI.out xu true wy HUu.out.1 HIu.out)) <| .c stp <| .c stp <| .c (sts underlying25 HGr.out) <| .c stp <| .c stp <| .c stp <| .c (stj (n := m) (c := c) 6 hlt underlying26) <| .c (saj 2 hkl underlying74) <| .c stp <| .c (stl underlying22 HV.out) <| .c (stK old_R func55 (fun wy _ => HI.out xv false wy HUu.out.2 HIv.out)) <| .c stp <| .c stp .n
       intro t wz hR hk2
       simp only [fill, Ent.val, List.set_cons_zero, List.set_cons_succ, List.drop_succ_cons, List.drop_zero, List.drop_nil]
       have HO3 : Hid (Old W wz) := HO2.out.trans hR
       clear hR hk2
       go_wp2_with fail
       go_ret
       exact ⟨zad HN.out.symm, HW0.out.trans HO3.out⟩
      | true =>
       have HIv : Hid (inI P Q (C i (2 * k + 1)) = true) := hv
       have HK2 : Hid (∀ q, q < 2 * (k + 1) -> inI P Q (C i q) = true) := fun q hq => by
        by_cases q1 : q < 2 * k
        ·exact HK.out q q1
        ·by_cases q2 : q = 2 * k
         ·rw [q2]; exact HIu.out
         ·rw [show q = 2 * k + 1 by omega]; exact hv
       clear hv HK
       generalize C i (2 * k) = xu at *
       generalize C i (2 * k + 1) = xv at *
       go_upto_region 9 with fail
       refine zaa 22 [.k (gv P Q G H a n cap), .k (.slice (some ⟨bx, ox, none⟩) m c), .k (.int .i64 (i : Int)), .k (.int .i64 (k : Int)), .k (.pointer (some ⟨bx, ox + i * 6, none⟩)), .k (.pointer (some ⟨bx, ox + i * 6 + k * 2, none⟩)), .k (.pointer (some ⟨bx, ox + i * 6 + k * 2, none⟩)), .k (.int .u64 xu), .k (.bool true), .k (.bool false), .k (.bool false), .k (gv P Q G H a n cap), .k (.slice (some ⟨bx, ox, none⟩) m c), .k (.int .i64 (i : Int)), .k (.int .i64 (k : Int)), .k (.pointer (some ⟨bx, ox + i * 6, none⟩)), .k (.pointer (some ⟨bx, ox + i * 6 + k * 2, none⟩)), .k (.pointer (some ⟨bx, ox + i * 6 + k * 2 + 1, none⟩)), .k (.int .u64 xv), .k (.bool true), .k (.bool false), .k (.bool false)] (Old wr) (by kernel_rfl) (by kernel_rfl) rfl ((Old.refl _).drew) ?st ?_
       case st =>
        refine .c (sts underlying25 HGr.out) <| .c stp <| .c stp <| .c stp <| .c (stj (n := m) (c := c) 6 hlt underlying26) <| .c (saj 2 hkl underlying74) <| .c stp <| .c (stl underlying22 HU.out) <| .c (stK old_R func55 (fun wy _ => HI.out xu true wy HUu.out.1 HIu.out)) <| .c stp <| .c stp <| .c (sts underlying25 HGr.out) <| .c stp <| .c stp <| .c stp <| .c (stj (n := m) (c := c) 6 hlt underlying26) <| .c (saj 2 hkl underlying74) <| .c stp <| .c (stl underlying22 HV.out) <| .c (stK old_R func55 (fun wy _ => HI.out xv true wy HUu.out.2 HIv.out)) <| .c stp <| .c stp .n
       intro t wz hR hk2
       simp only [fill, Ent.val, List.set_cons_zero, List.set_cons_succ, List.drop_succ_cons, List.drop_zero, List.drop_nil]
       have HO3 : Hid (Old W wz) := HO2.out.trans hR
       clear hR hk2
       go_wp2_with fail
       go_roundw
       case rel => exact ⟨k + 1, zab k, by omega, HO3, HK2⟩
       case measure => simp [intOf]; omega
    ·have hk3 : k = 3 := by omega
     subst hk3
     go_wp2_with fail
     go_roundw
     case rel => exact ⟨i + 1, zab i, by omega, HO2, zav HJ.out (fun q hq => HK.out q (by omega))⟩
     case measure => simp [intOf]; omega
  ·have he : m = i := by omega
   have HV : Hid (batB P Q m C = true) := zaK.2 ⟨H18.out, by rw [he]; exact HJ.out⟩
   subst he
   go_wp2_with fail
   go_ret
   exact ⟨zad HV.out.symm, HW0.out.trans HO.out⟩
def ordR (n : Nat) (O : NI) : Bool := decide (n <= 8) && ordB n O
theorem zbe {n : Nat} {O : NI} : ordR n O = true ↔ (1 <= n /\ n <= 8) /\ ∀ k, k < n -> ordK8 O (k : Nat) n = 1 := by
 unfold ordR
 rw [Bool.and_eq_true_iff, decide_eq_true_eq, zaA]
 exact ⟨fun ⟨h8, h⟩ => ⟨⟨h.1, h8⟩, h.once⟩, fun ⟨h1, h⟩ => ⟨h1.2, ordP_of_once h1.1 h⟩⟩
theorem ordK8_le2 (O : NI) (k : Int) : ∀ n, ordK8 O k n <= n
 | 0 => Nat.le_refl 0
 | n + 1 => by
  show ordK8 O k n + (if O n = k then 1 else 0) <= n + 1
  have := ordK8_le2 O k n
  split <;> omega
theorem zbB (b : OA) (n c : Nat) (O : NI) (w : World) (mm : n <= 9223372036854775807) (h : IntsIn w b n O) :
  Calls prog 56 #[.slice b n c] w (Ret w (.bool (ordR n O))) := by
 have HX : Hid (IntsIn w b n O) := h
 clear h
 by_cases h1 : 1 <= n
 rotate_left
 ·have HV : Hid (ordR n O = false) := no_of fun hc => h1 (zbe.1 hc).1.1
  have h0 : n = 0 := by omega
  subst h0
  go_enter func56, ntmps56
  go_wp2_with fail
  go_ret
  exact ⟨zad HV.out.symm, Old.refl _⟩
 by_cases h8 : n <= 8
 rotate_left
 ·have HV : Hid (ordR n O = false) := no_of fun hc => h8 (zbe.1 hc).1.2
  have k1 : ¬ (n : Int) < 1 := by omega
  have k2 : (8 : Int) < (n : Int) := by omega
  clear h1 h8
  go_enter func56, ntmps56
  go_wp2_with fail
  go_ret
  exact ⟨zad HV.out.symm, Old.refl _⟩
 have k1 : ¬ (n : Int) < 1 := by omega
 have k2 : ¬ (8 : Int) < (n : Int) := by omega
 have H18 : Hid (1 <= n /\ n <= 8) := ⟨h1, h8⟩
 go_enter func56, ntmps56
 go_wp2_with fail
 go_loopw [3] (fun kv wx => ∃ k : Nat, kv = .int .i64 (k : Int) /\ k <= n /\ Hid (Old w wx) /\ Hid (∀ j, j < k -> ordK8 O (j : Nat) n = 1)) (fun kv _ => n - (intOf kv).toNat)
 case atStart => exact ⟨0, rfl, Nat.zero_le _, Old.refl _, fun j hj => by omega⟩
 case round =>
  obtain ⟨k, rfl, hk, HO, HJ⟩ := hrel
  by_cases hlt : k < n
  ·go_upto_region 8 with fail
   go_loopw [4, 5] (fun nv iv wx => ∃ i : Nat, iv = .int .i64 (i : Int) /\ i <= n /\ nv = .int .i64 ((ordK8 O (k : Int) i : Nat) : Int) /\ Hid (Old w wx)) (fun _ iv _ => n - (intOf iv).toNat)
   case atStart => exact ⟨0, rfl, Nat.zero_le _, rfl, HO⟩
   case round =>
    obtain ⟨i, rfl, hi, rfl, HO2⟩ := hrel
    by_cases hil : i < n
    ·rcases HX.out with h0 | ⟨bx, ox, hqx, _, hrx⟩
     ·omega
     have cx := (HO2.out).cellOf (hrx i hil).1
     clear hrx
     subst hqx
     have hle := ordK8_le2 O (k : Int) i
     by_cases he : O i = (k : Int)
     ·have HK : Hid (ordK8 O (k : Int) (i + 1) = ordK8 O (k : Int) i + 1) := by show ordK8 O (k : Int) i + (if O i = (k : Int) then 1 else 0) = _; rw [if_pos he]
      rw [he] at cx
      clear he
      generalize ordK8 O (k : Int) i = cn at *
      go_wp2_with fail
      go_roundw
      case rel => exact ⟨i + 1, zab i, by omega, by rw [HK.out]; exact zab cn, HO2⟩
      case measure => simp [intOf]; omega
     ·have HK : Hid (ordK8 O (k : Int) (i + 1) = ordK8 O (k : Int) i) := by show ordK8 O (k : Int) i + (if O i = (k : Int) then 1 else 0) = _; rw [if_neg he]; rfl
      generalize ordK8 O (k : Int) i = cn at *
      go_wp2_with fail
      go_roundw
      case rel => exact ⟨i + 1, zab i, by omega, by rw [HK.out], HO2⟩
      case measure => simp [intOf]; omega
    ·have hie : n = i := by omega
     subst hie
     by_cases he : ordK8 O (k : Int) n = 1
     ·have HE : Hid (ordK8 O (k : Nat) n = 1) := he
      rw [he]
      clear he
      go_wp2_with fail
      go_roundw
      case rel => exact ⟨k + 1, zab k, by omega, HO2, zav HJ.out HE.out⟩
      case measure => simp [intOf]; omega
     ·have HN : Hid (ordR n O = false) := no_of fun hc => he ((zbe.1 hc).2 k hlt)
      have k3 : ¬ ((ordK8 O (k : Int) n : Nat) : Int) = 1 := by omega
      clear he
      generalize ordK8 O (k : Int) n = cn at *
      go_wp2_with fail
      go_ret
      exact ⟨zad HN.out.symm, HO2.out⟩
  ·have he : n = k := by omega
   have HV : Hid (ordR n O = true) := zbe.2 ⟨H18.out, by rw [he]; rw [he] at HJ; exact HJ.out⟩
   subst he
   go_wp2_with fail
   go_ret
   exact ⟨zad HV.out.symm, HO.out⟩
end
section
open Go.RowKit
theorem zaO (x y Q : Int) (hx : U64 x) (hy : U64 y) (w : World) : Calls prog 70 #[.int .u64 x, .int .u64 y, .int .u64 Q] w (Ret w (.int .u64 (mulI x y Q))) := (zbn x y Q w hx.1 hx.2 hy.1 hy.2).mono fun r w' ⟨h, k⟩ => ⟨h, (Old.refl _).draws k⟩
theorem zda (x y Q : Int) (hx : U64 x) (hy : U64 y) (w : World) : Calls prog 77 #[.int .u64 x, .int .u64 y, .int .u64 Q] w (Ret w (.int .u64 (addI x y Q))) := (zdU x y Q w hx.1 hx.2 hy.1 hy.2).mono fun r w' ⟨h, k⟩ => ⟨h, (Old.refl _).draws k⟩
theorem zc8 (x y Q : Int) (hx : U64 x) (hy : U64 y) (w : World) : Calls prog 78 #[.int .u64 x, .int .u64 y, .int .u64 Q] w (Ret w (.int .u64 (subI x y Q))) := (rsub_any x y Q w hx.1 hx.2 hy.1 hy.2).mono fun r w' ⟨h, k⟩ => ⟨h, (Old.refl _).draws k⟩
theorem srpow_any (x y Q : Int) (hx : U64 x) (hy : U64 y) (w : World) : Calls prog 105 #[.int .u64 x, .int .u64 y, .int .u64 Q] w (Ret w (.int .u64 (powI x y Q))) := (zcF x y Q w hx.1 hx.2 hy.1 hy.2).mono fun r w' ⟨h, k⟩ => ⟨h, (Old.refl _).draws k⟩
theorem za7 (P Q G H : Int) (a : OA) (n cap : Nat) (x e : Int) (h4 : Four P Q G H) (hx : U64 x) (he : U64 e) (w : World) : Calls prog 68 #[gv P Q G H a n cap, .int .u64 x, .int .u64 e] w (Ret w (.int .u64 (expI P Q x e))) := rexp_any P Q G H x e a n cap w h4.q1 hx.1 hx.2 he.1 he.2
theorem wrapi (x : Int) (h : 0 <= x /\ x <= 1000) : IntKind.i64.wrap x = x := by rw [IntKind.wrap_i64]; omega
theorem wrapu (x : Int) (h : 0 <= x /\ x <= 1000) : IntKind.u64.wrap x = x := by rw [IntKind.wrap_u64]; omega
theorem zdI (P Q G H : Int) (a : OA) (n cap : Nat) (m r : Int) (w : World) (h4 : Four P Q G H) (hm : U64 m) (hrr : U64 r) :
  Calls prog 60 #[gv P Q G H a n cap, .int .u64 m, .int .u64 r] w (Ret w (.int .u64 (comI P Q G H m r))) := by
 have HZ := lain1 w (gc P Q G H a n cap) 25
 have HG0 := fun w' ho => (HZ.then (W' := w') ho).row 0 (by simp)
 have HW0 := hid HZ.old
 clear HZ
 go_enter func60, ntmps60
 go_upto_region 1 with fail
 generalize w.alloc (.cells (gc P Q G H a n cap) 25) = W at *
 have HG := hid HG0
 clear HG0
 generalize w.heap.size = gb at *
 refine zaa 14 [.k (gv P Q G H a n cap), .k (.pointer (some ⟨gb, 2, none⟩)), .k (.int .u64 G), .k (.int .u64 m), .k (.int .u64 (expI P Q G m)), .k (gv P Q G H a n cap), .k (.pointer (some ⟨gb, 3, none⟩)), .k (.int .u64 H), .k (.int .u64 r), .k (.int .u64 (expI P Q H r)), .k (.pointer (some ⟨gb, 0, none⟩)), .k (.int .u64 P), .k (.int .u64 (comI P Q G H m r)), .k (.int .u64 (comI P Q G H m r))] (Old W) (by kernel_rfl) (by kernel_rfl) rfl ((Old.refl _).drew) ?st ?_
 case st =>
  refine .c (sts underlying25 HG.out) <| .c stp <| .c (stf 2 underlying22 HG.out) <| .c stp <| .c (stK old_R func68 (fun wx _ => za7 P Q G H a n cap G m h4 ⟨h4.g0, h4.g1⟩ hm wx)) <| .c (sts underlying25 HG.out) <| .c stp <| .c (stf 3 underlying22 HG.out) <| .c stp <| .c (stK old_R func68 (fun wx _ => za7 P Q G H a n cap H r h4 ⟨h4.h0, h4.h1⟩ hrr wx)) <| .c stp <| .c (stf 0 underlying22 HG.out) <| .c (stK old_R func70 (fun wx _ => zaO _ _ P (zaz _ _ _ _) (zaz _ _ _ _) wx)) <| .c stp .n
 intro t wx hR hk
 simp only [fill, Ent.val, List.set_cons_zero, List.set_cons_succ, List.drop_succ_cons, List.drop_zero, List.drop_nil]
 go_wp2_with fail
 go_ret
 exact ⟨rfl, HW0.out.trans hR⟩
theorem zbv (P Q G H : Int) (a : OA) (n cap : Nat) (x j : Int) (w : World) (hx : U64 x) (hj : 0 <= j /\ j <= 1000) :
  Calls prog 62 #[gv P Q G H a n cap, .int .u64 x, .int .i64 j] w (Ret w (.int .u64 (powI x j Q))) := by
 have HZ := lain1 w (gc P Q G H a n cap) 25
 have HG0 := fun w' ho => (HZ.then (W' := w') ho).row 0 (by simp)
 have HW0 := hid HZ.old
 clear HZ
 go_enter func62, ntmps62
 go_upto_region 1 with fail
 generalize w.alloc (.cells (gc P Q G H a n cap) 25) = W at *
 have HG := hid HG0
 clear HG0
 generalize w.heap.size = gb at *
 have g1 : W.cell? ⟨gb, 1, none⟩ = some (.int .u64 Q) := cell_of_row _ _ 1 _ _ (0, 0) (HG.out _ (Old.refl _))
 have e1 := wrapu j hj
 go_wp2_with (go_at_call 105; refine (srpow_any x j Q hx ⟨by omega, by omega⟩ _).mono ?_; rintro e w1 ⟨rfl, o1⟩)
 go_ret
 exact ⟨rfl, HW0.out.trans o1⟩
theorem rd8_any (P Q G H : Int) (a : OA) (n cap : Nat) (bo : OA) (no co : Nat) (O : NI) (ba : OA) (na ca : Nat) (X : Int) (bb : OA) (nb cb : Nat) (Y Z : Int) (bp : OA) (np cp : Nat) (i : Nat) (w : World) (hi : i < no) (hX : U64 X) (hY : U64 Y) (hZ : U64 Z) (hO : IntsIn w bo no O) (hj : 0 <= O i /\ O i < 1000) :
  Calls prog 69 #[gv P Q G H a n cap, .slice bo no co, tk ba na ca X bb nb cb Y Z bp np cp, .int .i64 (i : Int)] w (Ret w (.int .u64 (facI Q X Y Z (O i + 1)))) := by
 have HO := hid hO
 clear hO
 have HZ := lain2 w (gc P Q G H a n cap) (tkc ba na ca X bb nb cb Y Z bp np cp) 25 41
 have HG0 := fun w' ho => (HZ.then (W' := w') ho).row 0 (by simp)
 have HT0 := fun w' ho => (HZ.then (W' := w') ho).row 1 (by simp)
 have HW0 := hid HZ.old
 clear HZ
 go_enter func69, ntmps69
 go_upto_region 1 with fail
 generalize ((w.alloc (.cells (gc P Q G H a n cap) 25)).alloc (.cells (tkc ba na ca X bb nb cb Y Z bp np cp) 41)) = W at *
 have HG := hid HG0
 have HT := hid HT0
 clear HG0 HT0
 generalize w.heap.size = gb at *
 rcases HO.out with h0 | ⟨bx, ox, hqx, _, hrx⟩
 ·omega
 have HC := hid fun wx (hx : Old W wx) => (HW0.out.trans hx).cellOf (hrx i hi).1
 clear hrx HO
 subst hqx
 generalize O i = x at *
 have hx1 : 0 <= x + 1 /\ x + 1 <= 1000 := by omega
 have HJ : Hid (U64 (x + 1)) := ⟨by omega, by omega⟩
 have HWi : Hid (IntKind.i64.wrap (x + 1) = x + 1) := wrapi _ hx1
 have k2 := wrapu _ hx1
 have k1 := wrapi _ hx1
 have cx := HC.out W (Old.refl _)
 go_upto_region 2 with fail
 clear cx k1 k2
 refine zaa 19 [.k (.pointer (some ⟨gb + 1, 3, none⟩)), .k (.int .u64 Y), .k (.int .u64 (x + 1)), .k (.pointer (some ⟨gb, 1, none⟩)), .k (.int .u64 Q), .k (.int .u64 (mulI Y (x + 1) Q)), .k (gv P Q G H a n cap), .k (.pointer (some ⟨gb + 1, 1, none⟩)), .k (.int .u64 X), .k (.slice (some ⟨bx, ox, none⟩) no co), .k (.int .i64 (i : Int)), .k (.pointer (some ⟨bx, ox + i, none⟩)), .k (.int .i64 x), .k (.int .i64 (x + 1)), .k (.int .u64 (powI X (x + 1) Q)), .k (.pointer (some ⟨gb, 1, none⟩)), .k (.int .u64 Q), .k (.int .u64 (addI (mulI Y (x + 1) Q) (powI X (x + 1) Q) Q)), .k (.int .u64 (addI (mulI Y (x + 1) Q) (powI X (x + 1) Q) Q))] (Old W) (by kernel_rfl) (by kernel_rfl) rfl ((Old.refl _).drew) ?st ?_
 case st =>
  refine .c stp <| .c (stf 3 underlying22 HT.out) <| .c stp <| .c stp <| .c (stf 1 underlying22 HG.out) <| .c (stK old_R func70 (fun wx _ => zaO Y _ Q hY HJ.out wx)) <| .c (sts underlying25 HG.out) <| .c stp <| .c (stf 1 underlying22 HT.out) <| .c stp <| .c stp <| .c (sti (n := no) (c := co) hi underlying27) <| .c (stl underlying3 HC.out) <| .c (stv (v' := .int .i64 (IntKind.i64.wrap (x + 1))) (by rw [HWi.out])) <| .c (stK old_R func62 (fun wx _ => zbv P Q G H a n cap X (x + 1) wx hX hx1)) <| .c stp <| .c (stf 1 underlying22 HG.out) <| .c (stK old_R func77 (fun wx _ => zda _ _ Q (zaI _ _ _) (zbk _ _ _) wx)) <| .c stp .n
 intro t wx hR hk
 simp only [fill, Ent.val, List.set_cons_zero, List.set_cons_succ, List.drop_succ_cons, List.drop_zero, List.drop_nil]
 have d0 : wx.cell? ⟨gb, 1, none⟩ = some (.int .u64 Q) := cell_of_row _ _ 1 _ _ (0, 0) (HG.out _ hR)
 have d1 : wx.cell? ⟨gb + 1, 4, none⟩ = some (.int .u64 Z) := cell_of_row _ _ 4 _ _ (0, 0) (HT.out _ hR)
 go_wp2_with (go_at_call 78; refine (zc8 _ Z Q (zba _ _ _) hZ _).mono ?_; rintro e wz ⟨rfl, oz⟩)
 go_ret
 exact ⟨rfl, (HW0.out.trans hR).trans oz⟩
theorem rbig8_any (P Q G H : Int) (a : OA) (n cap : Nat) (ba : OA) (na ca : Nat) (X : Int) (bb : OA) (nb cb : Nat) (Y Z : Int) (bp : OA) (np cp : Nat) (A B : NI) (i : Nat) (w : World) (h4 : Four P Q G H) (ha : i < na) (hb : i < nb) (hY : U64 Y) (hZ : U64 Z) (hA : FacsIn w ba na A) (hB : FacsIn w bb nb B) :
  Calls prog 67 #[gv P Q G H a n cap, tk ba na ca X bb nb cb Y Z bp np cp, .int .i64 (i : Int)] w (Ret w (.int .u64 (bigI P Q G (A i) (B i) Y Z))) := by
 have HA := hid hA
 have HB := hid hB
 have HAu := hid (hA.u64 i ha)
 have HBu := hid (hB.u64 i hb)
 clear hA hB
 have HZ := lain2 w (gc P Q G H a n cap) (tkc ba na ca X bb nb cb Y Z bp np cp) 25 41
 have HG0 := fun w' ho => (HZ.then (W' := w') ho).row 0 (by simp)
 have HT0 := fun w' ho => (HZ.then (W' := w') ho).row 1 (by simp)
 have HW0 := hid HZ.old
 clear HZ
 go_enter func67, ntmps67
 go_upto_region 1 with fail
 generalize ((w.alloc (.cells (gc P Q G H a n cap) 25)).alloc (.cells (tkc ba na ca X bb nb cb Y Z bp np cp) 41)) = W at *
 have HG := hid HG0
 have HT := hid HT0
 clear HG0 HT0
 generalize w.heap.size = gb at *
 rcases HA.out with h0 | ⟨bx, ox, hqx, _, hrx⟩
 ·omega
 rcases HB.out with h0 | ⟨by_, oy, hqy, _, hry⟩
 ·omega
 have HC := hid fun wx (hx : Old W wx) => (HW0.out.trans hx).cellOf (hrx i ha).1
 have HD := hid fun wx (hx : Old W wx) => (HW0.out.trans hx).cellOf (hry i hb).1
 clear hrx hry HA HB
 subst hqx
 subst hqy
 generalize A i = x at *
 generalize B i = z at *
 refine zaa 18 [.k (gv P Q G H a n cap), .k (.pointer (some ⟨gb + 1, 0, none⟩)), .k (.slice (some ⟨bx, ox, none⟩) na ca), .k (.int .i64 (i : Int)), .k (.pointer (some ⟨bx, ox + i, none⟩)), .k (.int .u64 x), .k (.pointer (some ⟨gb + 1, 3, none⟩)), .k (.int .u64 Y), .k (.int .u64 (expI P Q x Y)), .k (.pointer (some ⟨gb + 1, 2, none⟩)), .k (.slice (some ⟨by_, oy, none⟩) nb cb), .k (.int .i64 (i : Int)), .k (.pointer (some ⟨by_, oy + i, none⟩)), .k (.int .u64 z), .k (.pointer (some ⟨gb, 0, none⟩)), .k (.int .u64 P), .k (.int .u64 (mulI (expI P Q x Y) z P)), .k (.int .u64 (mulI (expI P Q x Y) z P))] (Old W) (by kernel_rfl) (by kernel_rfl) rfl ((Old.refl _).drew) ?st ?_
 case st =>
  refine .c (sts underlying25 HG.out) <| .c stp <| .c (stf 0 underlying29 HT.out) <| .c stp <| .c (sti (n := na) (c := ca) ha underlying29) <| .c (stl underlying22 HC.out) <| .c stp <| .c (stf 3 underlying22 HT.out) <| .c (stK old_R func68 (fun wx _ => za7 P Q G H a n cap x Y h4 HAu.out hY wx)) <| .c stp <| .c (stf 2 underlying29 HT.out) <| .c stp <| .c (sti (n := nb) (c := cb) hb underlying29) <| .c (stl underlying22 HD.out) <| .c stp <| .c (stf 0 underlying22 HG.out) <| .c (stK old_R func70 (fun wx _ => zaO _ _ P (zaz _ _ _ _) HBu.out wx)) <| .c stp .n
 intro t wx hR hk
 simp only [fill, Ent.val, List.set_cons_zero, List.set_cons_succ, List.drop_succ_cons, List.drop_zero, List.drop_nil]
 go_upto_region 2 with fail
 have HR := hid hR
 clear hR hk
 refine zaa 10 [.k (gv P Q G H a n cap), .k (.int .u64 (mulI (expI P Q x Y) z P)), .k (gv P Q G H a n cap), .k (.pointer (some ⟨gb, 2, none⟩)), .k (.int .u64 G), .k (.pointer (some ⟨gb + 1, 4, none⟩)), .k (.int .u64 Z), .k (.int .u64 (expI P Q G Z)), .k (.int .u64 (bigI P Q G x z Y Z)), .k (.int .u64 (bigI P Q G x z Y Z))] (Old wx) (by kernel_rfl) (by kernel_rfl) rfl ((Old.refl _).drew) ?st ?_
 case st =>
  refine .c (sts underlying25 (fun wy hy => HG.out wy (HR.out.trans hy))) <| .c stp <| .c (sts underlying25 (fun wy hy => HG.out wy (HR.out.trans hy))) <| .c stp <| .c (stf 2 underlying22 (fun wy hy => HG.out wy (HR.out.trans hy))) <| .c stp <| .c (stf 4 underlying22 (fun wy hy => HT.out wy (HR.out.trans hy))) <| .c (stK old_R func68 (fun wy _ => za7 P Q G H a n cap G Z h4 ⟨h4.g0, h4.g1⟩ hZ wy)) <| .c (stK old_R func86 (fun wy _ => rover_any P Q G H a n cap _ _ wy (zaI _ _ _) (zaz _ _ _ _))) <| .c stp .n
 intro t wz hR2 hk2
 simp only [fill, Ent.val, List.set_cons_zero, List.set_cons_succ, List.drop_succ_cons, List.drop_zero, List.drop_nil]
 go_wp2_with fail
 go_ret
 exact ⟨rfl, (HW0.out.trans HR.out).trans hR2⟩
theorem rproduct8_any (P Q G H : Int) (a : OA) (n cap : Nat) (m : Nat) (X Y Z : Int) (w : World) (hm : m <= 100) (hX : U64 X) (hY : U64 Y) (hZ : U64 Z) :
  Calls prog 87 #[gv P Q G H a n cap, .int .i64 (m : Int), .int .u64 X, .int .u64 Y, .int .u64 Z] w (Ret w (.int .u64 (prodI Q (kF Q X Y Z) m))) := by
 have HZ := lain1 w (gc P Q G H a n cap) 25
 have HG0 := fun w' ho => (HZ.then (W' := w') ho).row 0 (by simp)
 have HW0 := hid HZ.old
 clear HZ
 go_enter func87, ntmps87
 go_upto_region 1 with fail
 generalize w.alloc (.cells (gc P Q G H a n cap) 25) = W at *
 have HG := hid HG0
 clear HG0
 generalize w.heap.size = gb at *
 go_upto_region 3 with fail
 go_loopw [11, 12] (fun v iv wx => ∃ i : Nat, iv = .int .i64 ((i + 1 : Nat) : Int) /\ i <= m /\ v = .int .u64 (prodI Q (kF Q X Y Z) i) /\ Hid (Old W wx)) (fun _ iv _ => m + 1 - (intOf iv).toNat)
 case atStart => exact ⟨0, rfl, by omega, rfl, Old.refl _⟩
 case round =>
  obtain ⟨i, rfl, hi, rfl, HO⟩ := hrel
  by_cases hlt : i < m
  ·have hlt' : i + 1 <= m := hlt
   have HGr := hid fun wx (hx : Old wr wx) => HG.out _ (HO.out.trans hx)
   have HPu : Hid (U64 (prodI Q (kF Q X Y Z) i)) := zaM _ _ _
   have HJu : Hid (U64 ((i + 1 : Nat) : Int)) := ⟨by omega, by omega⟩
   have HJs : Hid (0 <= ((i + 1 : Nat) : Int) /\ ((i + 1 : Nat) : Int) <= 1000) := ⟨by omega, by omega⟩
   go_upto_region 5 with fail
   refine zaa 14 [.k (.int .u64 Y), .k (.int .i64 ((i + 1 : Nat) : Int)), .k (.int .u64 ((i + 1 : Nat) : Int)), .k (.pointer (some ⟨gb, 1, none⟩)), .k (.int .u64 Q), .k (.int .u64 (mulI Y ((i + 1 : Nat) : Int) Q)), .k (gv P Q G H a n cap), .k (.int .u64 X), .k (.int .i64 ((i + 1 : Nat) : Int)), .k (.int .u64 (powI X ((i + 1 : Nat) : Int) Q)), .k (.pointer (some ⟨gb, 1, none⟩)), .k (.int .u64 Q), .k (.int .u64 (addI (mulI Y ((i + 1 : Nat) : Int) Q) (powI X ((i + 1 : Nat) : Int) Q) Q)), .k (.int .u64 (addI (mulI Y ((i + 1 : Nat) : Int) Q) (powI X ((i + 1 : Nat) : Int) Q) Q))] (Old wr) (by kernel_rfl) (by kernel_rfl) rfl ((Old.refl _).drew) ?st ?_
   case st =>
    refine .c stp <| .c stp <| .c (stv (int_u64 (i + 1) (by omega))) <| .c stp <| .c (stf 1 underlying22 HGr.out) <| .c (stK old_R func70 (fun wx _ => zaO Y _ Q hY HJu.out wx)) <| .c (sts underlying25 HGr.out) <| .c stp <| .c stp <| .c (stK old_R func62 (fun wx _ => zbv P Q G H a n cap X _ wx hX HJs.out)) <| .c stp <| .c (stf 1 underlying22 HGr.out) <| .c (stK old_R func77 (fun wx _ => zda _ _ Q (zaI _ _ _) (zbk _ _ _) wx)) <| .c stp .n
   intro t wx hR hk
   simp only [fill, Ent.val, List.set_cons_zero, List.set_cons_succ, List.drop_succ_cons, List.drop_zero, List.drop_nil]
   go_upto_region 6 with fail
   have HR := hid (HO.out.trans hR)
   have HGx := hid fun wy (hx : Old wx wy) => HG.out _ (HR.out.trans hx)
   clear hR hk HGr HO
   refine zaa 9 [.k (.int .u64 (prodI Q (kF Q X Y Z) i)), .k (.int .u64 (addI (mulI Y ((i + 1 : Nat) : Int) Q) (powI X ((i + 1 : Nat) : Int) Q) Q)), .k (.int .u64 Z), .k (.pointer (some ⟨gb, 1, none⟩)), .k (.int .u64 Q), .k (.int .u64 (kF Q X Y Z i)), .k (.pointer (some ⟨gb, 1, none⟩)), .k (.int .u64 Q), .k (.int .u64 (prodI Q (kF Q X Y Z) (i + 1)))] (Old wx) (by kernel_rfl) (by kernel_rfl) rfl ((Old.refl _).drew) ?st ?_
   case st =>
    refine .c stp <| .c stp <| .c stp <| .c stp <| .c (stf 1 underlying22 HGx.out) <| .c (stK old_R func78 (fun wy _ => zc8 _ Z Q (zba _ _ _) hZ wy)) <| .c stp <| .c (stf 1 underlying22 HGx.out) <| .c (stK old_R func70 (fun wy _ => zaO _ _ Q HPu.out (zcZ _ _ _) wy)) .n
   intro t wz hR2 hk2
   simp only [fill, Ent.val, List.set_cons_zero, List.set_cons_succ, List.drop_succ_cons, List.drop_zero, List.drop_nil]
   have HR2 := hid (HR.out.trans hR2)
   clear hR2 hk2 HGx HR
   go_wp2_with fail
   go_roundw
   case rel => exact ⟨i + 1, zab _, by omega, rfl, HR2⟩
   case measure => simp [intOf]; omega
  ·have he : m = i := by omega
   subst he
   go_wp2_with fail
   go_ret
   exact ⟨rfl, HW0.out.trans HO.out⟩
end
section
open Go.RowKit
theorem rrow8_any (n : Nat) (w : World) (hn : n <= 8) :
  Calls prog 85 #[.int .i64 (n : Int)] w (GivF w (7 * n + 3) (fun _ => 1)) := by
 obtain ⟨N, hN⟩ : ∃ N, N = 7 * n + 3 := ⟨_, rfl⟩
 rw [<- hN]
 have hN8 : N <= 80 := by omega
 have k1 : IntKind.i64.wrap (7 * (n : Int)) = 7 * (n : Int) := by rw [IntKind.wrap_i64]; omega
 have k2 : IntKind.i64.wrap (7 * (n : Int) + 3) = (N : Int) := by rw [IntKind.wrap_i64]; omega
 have hmk := zaP N hN8
 have HFu : Hid (Full (w.alloc (.cells (madeCells #[Value.int .u64 0] N) 22)) w.heap.size N (upTo 0 fun _ => 1)) := zaC w N _
 have HW0 : Hid (Old w (w.alloc (.cells (madeCells #[Value.int .u64 0] N) 22))) := (Old.refl _).alloc _
 clear hN hn
 go_enter func85, ntmps85
 go_upto_region 2 with fail
 clear k1 k2 hmk
 generalize w.alloc (.cells (madeCells #[Value.int .u64 0] N) 22) = W1 at *
 go_upto_region 3 with fail
 go_loopw [4] (fun iv wx => ∃ i : Nat, iv = .int .i64 (i : Int) /\ i <= N /\ Hid (Full wx w.heap.size N (upTo i fun _ => 1)) /\ Hid (Old w wx)) (fun iv _ => N - (intOf iv).toNat)
 case atStart => exact ⟨0, rfl, Nat.zero_le _, HFu, HW0⟩
 case round =>
  obtain ⟨i, rfl, hi1, HN, HO⟩ := hrel
  by_cases hlt : i < N
  ·have HG : Hid (Full (wr.setCell ⟨w.heap.size, i, none⟩ (.int .u64 1)) w.heap.size N (upTo (i + 1) fun _ => 1)) := HN.out.next
   have HG2 : Hid (Old w (wr.setCell ⟨w.heap.size, i, none⟩ (.int .u64 1))) := HO.out.setCell (p := ⟨w.heap.size, i, none⟩) (Nat.le_refl _) _
   have q0 := HN.out.cell i hlt
   have f0 := HN.out.free i
   go_wp2_with fail
   go_roundw
   case rel => exact ⟨i + 1, zab i, by omega, HG, HG2⟩
   case measure => simp [intOf]; omega
  ·have he : N = i := by omega
   subst he
   have HD : Hid (Full wr w.heap.size N fun _ => 1) := HN.out.done
   go_wp2_with fail
   go_ret
   exact ⟨HO.out, w.heap.size, Nat.le_refl _, rfl, HD.out⟩
theorem zbL (P Q G H : Int) (a : OA) (n cap : Nat) (b : OA) (m c : Nat) (A : NI) (w : World) (h4 : Four P Q G H) (mm : m <= 9223372036854775807) (h : FacsIn w b m A) :
  Calls prog 84 #[gv P Q G H a n cap, .slice b m c] w (Ret w (.bool (elB P Q m A))) := by
 have HX : Hid (FacsIn w b m A) := h
 have HI : Hid (∀ x r wx, U64 x -> inI P Q x = r -> Calls prog 55 #[gv P Q G H a n cap, .int .u64 x] wx (Ret wx (.bool r))) := fun x r wx hx hr => by
  have := zdD P Q G H x a n cap wx h4.q0 h4.q1 hx.2
  rw [hr] at this
  exact this
 clear h h4
 have HZ := lain1 w (gc P Q G H a n cap) 25
 have HG0 := fun w' ho => (HZ.then (W' := w') ho).row 0 (by simp)
 have HW0 : Hid (Old w (w.alloc (.cells (gc P Q G H a n cap) 25))) := HZ.old
 clear HZ
 go_enter func84, ntmps84
 go_upto_region 1 with fail
 generalize w.alloc (.cells (gc P Q G H a n cap) 25) = W at *
 have HG : Hid (∀ wx, Old W wx -> wx.heap[w.heap.size]? = some (.cells (gc P Q G H a n cap) 25 (0, 0))) := HG0
 clear HG0
 generalize w.heap.size = gb at *
 go_upto_region 2 with fail
 go_loopw [5] (fun iv wx => ∃ i : Nat, iv = .int .i64 (i : Int) /\ i <= m /\ Hid (Old W wx) /\ Hid (∀ j, j < i -> inI P Q (A j) = true)) (fun iv _ => m - (intOf iv).toNat)
 case atStart => exact ⟨0, rfl, Nat.zero_le _, Old.refl _, fun j hj => by omega⟩
 case round =>
  obtain ⟨i, rfl, hi, HO, HJ⟩ := hrel
  by_cases hlt : i < m
  ·rcases HX.out with h0 | ⟨bx, ox, hqx, _, hrx⟩
   ·omega
   have HC : Hid (∀ wx, Old wr wx -> wx.cell? ⟨bx, ox + i, none⟩ = some (.int .u64 (A i))) := fun wx hx => ((HW0.out.trans HO.out).trans hx).cellOf (hrx i hlt).1
   have HAu : Hid (U64 (A i)) := (hrx i hlt).2
   have HGr : Hid (∀ wx, Old wr wx -> wx.heap[gb]? = some (.cells (gc P Q G H a n cap) 25 (0, 0))) := fun wx hx => HG.out _ (HO.out.trans hx)
   clear hrx
   subst hqx
   cases hu : inI P Q (A i) with
   | false =>
    have HIu : Hid (inI P Q (A i) = false) := hu
    have HN : Hid (elB P Q m A = false) := no_of fun hc => by have := zaZ.1 hc i hlt; rw [hu] at this; cases this
    clear hu
    go_upto_region 4 with fail
    refine zaa 6 [.k (gv P Q G H a n cap), .k (.slice (some ⟨bx, ox, none⟩) m c), .k (.int .i64 (i : Int)), .k (.pointer (some ⟨bx, ox + i, none⟩)), .k (.int .u64 (A i)), .k (.bool false)] (Old wr) (by kernel_rfl) (by kernel_rfl) rfl ((Old.refl _).drew) ?st ?_
    case st =>
     refine .c (sts underlying25 HGr.out) <| .c stp <| .c stp <| .c (sti (n := m) (c := c) hlt underlying29) <| .c (stl underlying22 HC.out) <| .c (stK old_R func55 (fun wy _ => HI.out _ _ wy HAu.out HIu.out)) .n
    intro t wx hR hk
    simp only [fill, Ent.val, List.set_cons_zero, List.set_cons_succ, List.drop_succ_cons, List.drop_zero, List.drop_nil]
    go_wp2_with fail
    go_ret
    exact ⟨zad HN.out.symm, (HW0.out.trans HO.out).trans hR⟩
   | true =>
    have HIu : Hid (inI P Q (A i) = true) := hu
    have HK : Hid (∀ j, j < i + 1 -> inI P Q (A j) = true) := fun j hj => by
     by_cases he : j = i
     ·rw [he]; exact hu
     ·exact HJ.out j (by omega)
    clear hu
    go_upto_region 4 with fail
    refine zaa 6 [.k (gv P Q G H a n cap), .k (.slice (some ⟨bx, ox, none⟩) m c), .k (.int .i64 (i : Int)), .k (.pointer (some ⟨bx, ox + i, none⟩)), .k (.int .u64 (A i)), .k (.bool true)] (Old wr) (by kernel_rfl) (by kernel_rfl) rfl ((Old.refl _).drew) ?st ?_
    case st =>
     refine .c (sts underlying25 HGr.out) <| .c stp <| .c stp <| .c (sti (n := m) (c := c) hlt underlying29) <| .c (stl underlying22 HC.out) <| .c (stK old_R func55 (fun wy _ => HI.out _ _ wy HAu.out HIu.out)) .n
    intro t wx hR hk
    simp only [fill, Ent.val, List.set_cons_zero, List.set_cons_succ, List.drop_succ_cons, List.drop_zero, List.drop_nil]
    have HR : Hid (Old W wx) := HO.out.trans hR
    clear hR hk HC HGr HO
    go_wp2_with fail
    go_roundw
    case rel => exact ⟨i + 1, zab i, by omega, HR, HK⟩
    case measure => simp [intOf]; omega
  ·have he : m = i := by omega
   subst he
   have HY : Hid (elB P Q m A = true) := zaZ.2 HJ.out
   go_wp2_with fail
   go_ret
   exact ⟨zad HY.out.symm, HW0.out.trans HO.out⟩
end
section
open Go Go.RowKit
def RowsN (w : World) (base : Nat) (e : TypeId) (sz : Nat) (v : Value) (n : Nat) (V : Nat -> Value) : Prop := w.ownsRow base e sz v n ((List.range (n * sz)).map V)
theorem rowsN_nil (w : World) (base : Nat) (e : TypeId) (sz : Nat) (V : Nat -> Value) : RowsN w base e sz (.slice none 0 0) 0 V := by
 unfold RowsN
 rw [Nat.zero_mul]
 exact World.ownsRow_nil _ _ _ _
theorem RowsN.old {w w' : World} {base : Nat} {e : TypeId} {sz n : Nat} {v : Value} {V : Nat -> Value} (h : RowsN w base e sz v n V) (ho : Old w w') : RowsN w' base e sz v n V := by
 refine ⟨h.1, ?_⟩
 rcases h.2 with hn | ⟨g, cap, cur, hv, hb, hg, rest⟩
 ·exact Or.inl hn
 ·exact Or.inr ⟨g, cap, cur, hv, hb, (ho.block g (Array.getElem?_eq_some_iff.1 hg).1).trans hg, rest⟩
theorem RowsN.app {w : World} {base : Nat} {e : TypeId} {sz n : Nat} {v : Value} {V : Nat -> Value} {news : List Value} (h : w.ownsRow base e sz v (n + 1) ((List.range (n * sz)).map V ++ news)) (hn : news = (List.range sz).map fun q => V (n * sz + q)) : RowsN w base e sz v (n + 1) V := by
 unfold RowsN
 rw [Nat.add_mul, Nat.one_mul, List.range_add, List.map_append, List.map_map]
 rw [hn] at h
 exact h
theorem RowsN.cells {w : World} {base : Nat} {e : TypeId} {sz n : Nat} {v : Value} {V : Nat -> Value} (h : RowsN w base e sz v n V) (hn : 0 < n) : ∃ g c cur, v = .slice (some ⟨g, 0, none⟩) n c /\ n <= c /\ c <= 9223372036854775807 /\ base <= g /\ w.heap[g]? = some (.cells cur e (0, 0)) /\ ∀ q, q < n * sz -> cur[q]? = some (V q) := by
 have h1 := h.1
 rcases h.2 with ⟨rfl, rfl⟩ | ⟨g, cap, cur, rfl, hb, hg, hc, hm, hs, ht⟩
 ·omega
 ·refine ⟨g, cap, cur, rfl, hc, by unfold maxLen at hm; omega, hb, hg, fun q hq => ?_⟩
  have h2 : (cur.toList.take (n * sz))[q]? = some (V q) := by
   rw [ht]
   simp [hq]
  rw [List.getElem?_take_of_lt hq] at h2
  simpa using h2
theorem RowsN.slice {w : World} {base : Nat} {e : TypeId} {sz n : Nat} {v : Value} {V : Nat -> Value} (h : RowsN w base e sz v n V) : ∃ b c, v = .slice b n c := by
 rcases h.2 with ⟨rfl, rfl⟩ | ⟨g, cap, cur, rfl, _⟩
 ·exact ⟨none, 0, rfl⟩
 ·exact ⟨_, cap, rfl⟩
theorem zdn (w : World) (cs : List Value) (t : TypeId) : ∀ j u, cs[j]? = some u -> (w.alloc (.cells cs.toArray t)).cell? ((⟨w.heap.size, 0, none⟩ : Addr).add j) = some u := fun j u h => by
 have hadd : (⟨w.heap.size, 0, none⟩ : Addr).add j = ⟨w.heap.size, j, none⟩ := by unfold Addr.add; split <;> simp_all
 rw [hadd, cell_of_row _ _ j _ _ (0, 0) (heap_alloc_last _ _)]
 simpa using h
abbrev bxL (C : NN) : Nat -> Value := fun q => .int .u64 (flatF C q)
theorem RowsN.boxF {w : World} {base n : Nat} {v : Value} {C : NN} (h : RowsN w base 74 6 v n (bxL C)) (hC : ∀ j k, j < n -> k < 6 -> U64 (C j k)) : ∃ b c, v = .slice b n c /\ BoxF w b n C := by
 by_cases hn : 0 < n
 ·obtain ⟨g, c, cur, rfl, _, _, _, hg, hq⟩ := h.cells hn
  refine ⟨_, c, rfl, Or.inr ⟨g, cur, rfl, hg, fun j hj k hk => ⟨?_, hC j k hj hk⟩⟩⟩
  rw [hq (j * 6 + k) (by omega)]
  unfold bxL
  rw [show j * 6 + k = 6 * j + k by omega, zbQ C j k hk]
 ·obtain ⟨b, c, rfl⟩ := h.slice
  exact ⟨b, c, rfl, Or.inl (by omega)⟩
theorem box_news (C : NN) (n : Nat) : [Value.int .u64 (C n 0), .int .u64 (C n 1), .int .u64 (C n 2), .int .u64 (C n 3), .int .u64 (C n 4), .int .u64 (C n 5)] = (List.range 6).map fun q => bxL C (n * 6 + q) := by
 have h : ∀ k, k < 6 -> flatF C (n * 6 + k) = C n k := fun k hk => by rw [show n * 6 + k = 6 * n + k by omega, zbQ C n k hk]
 show _ = [bxL C (n * 6 + 0), bxL C (n * 6 + 1), bxL C (n * 6 + 2), bxL C (n * 6 + 3), bxL C (n * 6 + 4), bxL C (n * 6 + 5)]
 unfold bxL
 rw [h 0 (by omega), h 1 (by omega), h 2 (by omega), h 3 (by omega), h 4 (by omega), h 5 (by omega)]
end
section
open Go Go.RowKit
theorem za5 {w : World} {b : Nat} {cs : List Value} {t : TypeId} (h : w.heap[b]? = some (.cells cs.toArray t (0, 0))) : ∀ j u, cs[j]? = some u -> w.cell? ((⟨b, 0, none⟩ : Addr).add j) = some u := fun j u hu => by
 have hadd : (⟨b, 0, none⟩ : Addr).add j = ⟨b, j, none⟩ := by unfold Addr.add; split <;> simp_all
 rw [hadd, cell_of_row _ _ j _ _ (0, 0) h]
 simpa using hu
theorem rfirst8_any (P Q G H : Int) (a : OA) (n cap : Nat) (bo : OA) (no co : Nat) (O : NI) (br : OA) (cr : Nat) (R : NI) (w : World) (h4 : Four P Q G H) (ho : ordR no O = true) (hO : IntsIn w bo no O) (hR : FacsIn w br no R) :
  Calls prog 21 #[gv P Q G H a n cap, .slice bo no co, .slice br no cr] w (GivL w no (fun i => comI P Q G H (O i + 1) (R i))) := by
 obtain ⟨i0, hi0, hz0, hz1, hz2⟩ := info_parts zbj
 have h8 : no <= 8 := (zbe.1 ho).1.2
 have hP : OrdP no O := zaA.1 (by have := ho; unfold ordR at this; exact (Bool.and_eq_true_iff.1 this).2)
 have HOr : Hid (∀ wx, Old w wx -> Calls prog 56 #[.slice bo no co] wx (Ret wx (.bool true))) := fun wx hx => by have h := zbB bo no co O wx (by omega) (hO.old hx); rw [ho] at h; exact h
 have HB : Hid (∀ i, i < no -> 0 <= O i /\ O i < 1000) := fun i hi => by have := hP.2.1 i hi; omega
 have HIO := hid hO
 have HIR := hid hR
 have HRu := hid hR.u64
 obtain ⟨F, hF⟩ : ∃ F : Nat -> Int, F = fun i => comI P Q G H (O i + 1) (R i) := ⟨_, rfl⟩
 have HFi : Hid (∀ i, F i = comI P Q G H (O i + 1) (R i)) := fun i => by rw [hF]
 rw [<- hF]
 clear hF ho hO hR hP
 have HZ := lain1 w (gc P Q G H a n cap) 25
 have HG0 := fun w' ho => (HZ.then (W' := w') ho).row 0 (by simp)
 have HW0 := hid HZ.old
 clear HZ
 go_enter func21, ntmps21
 go_upto_region 1 with fail
 generalize w.alloc (.cells (gc P Q G H a n cap) 25) = W at *
 have HG := hid HG0
 clear HG0
 obtain ⟨gb, hgb⟩ : ∃ gb, gb = w.heap.size := ⟨_, rfl⟩
 rw [<- hgb] at HG
 rw [<- hgb]
 clear hgb
 go_upto_region 5 with (go_at_call 56; refine (HOr.out _ HW0.out).mono ?_; rintro e w1 ⟨rfl, o1⟩)
 have HO1 := hid o1
 clear o1 HOr
 go_loopw [7, 8] (fun v iv wx => ∃ i : Nat, iv = .int .i64 (i : Int) /\ i <= no /\ Hid (Nums wx W.heap.size v i F) /\ Hid (Old W wx)) (fun _ iv _ => no - (intOf iv).toNat)
 case atStart => exact ⟨0, rfl, Nat.zero_le _, zaD _ _ _, HO1⟩
 case round =>
  obtain ⟨i, rfl, hi, HN, HO⟩ := hrel
  by_cases hlt : i < no
  ·rcases HIO.out with h0 | ⟨bx, ox, hqx, _, hrx⟩
   ·omega
   rcases HIR.out with h0 | ⟨by_, oy, hqy, _, hry⟩
   ·omega
   have HC := hid fun wx (hx : Old wr wx) => ((HW0.out.trans HO.out).trans hx).cellOf (hrx i hlt).1
   have HD := hid fun wx (hx : Old wr wx) => ((HW0.out.trans HO.out).trans hx).cellOf (hry i hlt).1
   have HGr := hid fun wx (hx : Old wr wx) => HG.out _ (HO.out.trans hx)
   clear hrx hry
   subst hqx
   subst hqy
   have HJ : Hid (0 <= O i + 1 /\ O i + 1 <= 1000) := by have := HB.out i hlt; unfold Hid; omega
   have HJu : Hid (U64 (O i + 1)) := by have := HB.out i hlt; exact ⟨by omega, by omega⟩
   have HRi := hid (HRu.out i hlt)
   have HVi : Hid (Value.int .i64 (IntKind.i64.wrap (O i + 1)) = .int .i64 (O i + 1)) := by unfold Hid; rw [wrapi _ HJ.out]
   have HVu : Hid (Value.int .u64 (IntKind.u64.wrap (O i + 1)) = .int .u64 (O i + 1)) := by unfold Hid; rw [wrapu _ HJ.out]
   have HCo : Hid (∀ wx, Calls prog 60 #[gv P Q G H a n cap, .int .u64 (O i + 1), .int .u64 (R i)] wx (Ret wx (.int .u64 (F i)))) := fun wx => by rw [HFi.out]; exact zdI P Q G H a n cap _ _ wx h4 HJu.out HRi.out
   go_upto_region 7 with fail
   refine zaa 14 [.k (u7), .k (gv P Q G H a n cap), .k (.slice (some ⟨bx, ox, none⟩) no co), .k (.int .i64 (i : Int)), .k (.pointer (some ⟨bx, ox + i, none⟩)), .k (.int .i64 (O i)), .k (.int .i64 (O i + 1)), .k (.int .u64 (O i + 1)), .k (.slice (some ⟨by_, oy, none⟩) no cr), .k (.int .i64 (i : Int)), .k (.pointer (some ⟨by_, oy + i, none⟩)), .k (.int .u64 (R i)), .k (.int .u64 (F i)), blkE 1 #[.int .u64 (F i)] 22] (Old wr) (by kernel_rfl) (by kernel_rfl) rfl ((Old.refl _).drew) ?st ?_
   case st =>
    refine .c stp <| .c (sts underlying25 HGr.out) <| .c stp <| .c stp <| .c (sti (n := no) (c := co) hlt underlying27) <| .c (stl underlying3 HC.out) <| .c (stv HVi.out) <| .c (stv HVu.out) <| .c stp <| .c stp <| .c (sti (n := no) (c := cr) hlt underlying29) <| .c (stl underlying22 HD.out) <| .c (stK old_R func60 (fun wx _ => HCo.out wx)) <| .c (stm (ob := fun t => .cells #[.int .u64 (F i)] 22) (v := fun s => .slice (some ⟨s, 0, none⟩) 1 1) old_R fun t wx hR hd => ⟨_, rfl, heap_alloc_last _ _⟩) .n
   intro t wz hR2 hk2
   simp only [fill, Ent.val, blkE, List.set_cons_zero, List.set_cons_succ, List.drop_succ_cons, List.drop_zero, List.drop_nil]
   obtain ⟨bs, ebs, hbs⟩ : ∃ b, t 13 = .slice (some ⟨b, 0, none⟩) 1 1 /\ wz.heap[b]? = some (.cells #[.int .u64 (F i)] 22 (0, 0)) := hk2 13 (by omega)
   rw [ebs]
   have HNz := hid (HN.out.old hR2)
   have HOz := hid (HO.out.trans hR2)
   have HSz := hid HOz.out.size
   clear hk2 hR2 HN HO HC HD HGr HCo HVi HVu
   go_wp2_with (at_builtin; refine wpList_append_lies _ rfl _ _ 29 rfl W.heap.size 22 i0 (.int .u64 0) 1 8 underlying29 hi0 hz0 hz1 hz2 rfl (by decide) _ _ _ rfl HNz.out ⟨bs, 0, none⟩ 1 1 [.int .u64 (F i)] rfl rfl ?c1 ?c2 (by decide) ?c3 ?c4 HSz.out _ rfl ?_)
   case c1 => exact za5 hbs
   case c2 => intro u hu; simp at hu; rcases hu with rfl; rfl
   case c3 => unfold maxLen; omega
   case c4 => omega
   intro g9 cap9 w9 hown9 hgrow9 hat9 _
   have HN9 := hid (Nums.app hown9 rfl)
   have HO9 := hid (HOz.out.grown hgrow9 fun q hq => (World.ownsRow.lt HNz.out q hq).1)
   clear hown9 hgrow9 hat9 HNz HOz hbs ebs HSz
   go_wp2
   go_roundw
   case rel => exact ⟨i + 1, zab i, by omega, HN9, HO9⟩
   case measure => simp [intOf]; omega
  ·have he : no = i := by omega
   subst he
   go_wp2_with fail
   go_ret
   exact ⟨HW0.out.trans HO.out, _, rfl, HN.out.mono HW0.out.size⟩
theorem rsecond8_any (P Q G H : Int) (a : OA) (n cap : Nat) (bo : OA) (no co : Nat) (O : NI) (X : Int) (br : OA) (cr : Nat) (R : NI) (w : World) (h4 : Four P Q G H) (hXu : U64 X) (ho : ordR no O = true) (hO : IntsIn w bo no O) (hR : FacsIn w br no R) :
  Calls prog 23 #[gv P Q G H a n cap, .slice bo no co, .int .u64 X, .slice br no cr] w (GivL w no (fun i => comI P Q G H (powI X (O i + 1) Q) (R i))) := by
 obtain ⟨i0, hi0, hz0, hz1, hz2⟩ := info_parts zbj
 have h8 : no <= 8 := (zbe.1 ho).1.2
 have hP : OrdP no O := zaA.1 (by have := ho; unfold ordR at this; exact (Bool.and_eq_true_iff.1 this).2)
 have HOr : Hid (∀ wx, Old w wx -> Calls prog 56 #[.slice bo no co] wx (Ret wx (.bool true))) := fun wx hx => by have h := zbB bo no co O wx (by omega) (hO.old hx); rw [ho] at h; exact h
 have HB : Hid (∀ i, i < no -> 0 <= O i /\ O i < 1000) := fun i hi => by have := hP.2.1 i hi; omega
 have HIO := hid hO
 have HIR := hid hR
 have HRu := hid hR.u64
 obtain ⟨F, hF⟩ : ∃ F : Nat -> Int, F = fun i => comI P Q G H (powI X (O i + 1) Q) (R i) := ⟨_, rfl⟩
 have HFi : Hid (∀ i, F i = comI P Q G H (powI X (O i + 1) Q) (R i)) := fun i => by rw [hF]
 rw [<- hF]
 clear hF ho hO hR hP
 have HZ := lain1 w (gc P Q G H a n cap) 25
 have HG0 := fun w' ho => (HZ.then (W' := w') ho).row 0 (by simp)
 have HW0 := hid HZ.old
 clear HZ
 go_enter func23, ntmps23
 go_upto_region 1 with fail
 generalize w.alloc (.cells (gc P Q G H a n cap) 25) = W at *
 have HG := hid HG0
 clear HG0
 obtain ⟨gb, hgb⟩ : ∃ gb, gb = w.heap.size := ⟨_, rfl⟩
 rw [<- hgb] at HG
 rw [<- hgb]
 clear hgb
 go_upto_region 5 with (go_at_call 56; refine (HOr.out _ HW0.out).mono ?_; rintro e w1 ⟨rfl, o1⟩)
 have HO1 := hid o1
 clear o1 HOr
 go_loopw [9, 10] (fun v iv wx => ∃ i : Nat, iv = .int .i64 (i : Int) /\ i <= no /\ Hid (Nums wx W.heap.size v i F) /\ Hid (Old W wx)) (fun _ iv _ => no - (intOf iv).toNat)
 case atStart => exact ⟨0, rfl, Nat.zero_le _, zaD _ _ _, HO1⟩
 case round =>
  obtain ⟨i, rfl, hi, HN, HO⟩ := hrel
  by_cases hlt : i < no
  ·rcases HIO.out with h0 | ⟨bx, ox, hqx, _, hrx⟩
   ·omega
   rcases HIR.out with h0 | ⟨by_, oy, hqy, _, hry⟩
   ·omega
   have HC := hid fun wx (hx : Old wr wx) => ((HW0.out.trans HO.out).trans hx).cellOf (hrx i hlt).1
   have HD := hid fun wx (hx : Old wr wx) => ((HW0.out.trans HO.out).trans hx).cellOf (hry i hlt).1
   have HGr := hid fun wx (hx : Old wr wx) => HG.out _ (HO.out.trans hx)
   clear hrx hry
   subst hqx
   subst hqy
   have HJ : Hid (0 <= O i + 1 /\ O i + 1 <= 1000) := by have := HB.out i hlt; unfold Hid; omega
   have HJu : Hid (U64 (O i + 1)) := by have := HB.out i hlt; exact ⟨by omega, by omega⟩
   have HRi := hid (HRu.out i hlt)
   have HVi : Hid (Value.int .i64 (IntKind.i64.wrap (O i + 1)) = .int .i64 (O i + 1)) := by unfold Hid; rw [wrapi _ HJ.out]
   have HVu : Hid (Value.int .u64 (IntKind.u64.wrap (O i + 1)) = .int .u64 (O i + 1)) := by unfold Hid; rw [wrapu _ HJ.out]
   have HCo : Hid (∀ wx, Calls prog 60 #[gv P Q G H a n cap, .int .u64 (powI X (O i + 1) Q), .int .u64 (R i)] wx (Ret wx (.int .u64 (F i)))) := fun wx => by rw [HFi.out]; exact zdI P Q G H a n cap _ _ wx h4 (zbk _ _ _) HRi.out
   go_upto_region 7 with fail
   refine zaa 16 [.k (u9), .k (gv P Q G H a n cap), .k (gv P Q G H a n cap), .k (.int .u64 X), .k (.slice (some ⟨bx, ox, none⟩) no co), .k (.int .i64 (i : Int)), .k (.pointer (some ⟨bx, ox + i, none⟩)), .k (.int .i64 (O i)), .k (.int .i64 (O i + 1)), .k (.int .u64 (powI X (O i + 1) Q)), .k (.slice (some ⟨by_, oy, none⟩) no cr), .k (.int .i64 (i : Int)), .k (.pointer (some ⟨by_, oy + i, none⟩)), .k (.int .u64 (R i)), .k (.int .u64 (F i)), blkE 1 #[.int .u64 (F i)] 22] (Old wr) (by kernel_rfl) (by kernel_rfl) rfl ((Old.refl _).drew) ?st ?_
   case st =>
    refine .c stp <| .c (sts underlying25 HGr.out) <| .c (sts underlying25 HGr.out) <| .c stp <| .c stp <| .c stp <| .c (sti (n := no) (c := co) hlt underlying27) <| .c (stl underlying3 HC.out) <| .c (stv HVi.out) <| .c (stK old_R func62 (fun wx _ => zbv P Q G H a n cap X _ wx hXu HJ.out)) <| .c stp <| .c stp <| .c (sti (n := no) (c := cr) hlt underlying29) <| .c (stl underlying22 HD.out) <| .c (stK old_R func60 (fun wx _ => HCo.out wx)) <| .c (stm (ob := fun t => .cells #[.int .u64 (F i)] 22) (v := fun s => .slice (some ⟨s, 0, none⟩) 1 1) old_R fun t wx hR hd => ⟨_, rfl, heap_alloc_last _ _⟩) .n
   intro t wz hR2 hk2
   simp only [fill, Ent.val, blkE, List.set_cons_zero, List.set_cons_succ, List.drop_succ_cons, List.drop_zero, List.drop_nil]
   obtain ⟨bs, ebs, hbs⟩ : ∃ b, t 15 = .slice (some ⟨b, 0, none⟩) 1 1 /\ wz.heap[b]? = some (.cells #[.int .u64 (F i)] 22 (0, 0)) := hk2 15 (by omega)
   rw [ebs]
   have HNz := hid (HN.out.old hR2)
   have HOz := hid (HO.out.trans hR2)
   have HSz := hid HOz.out.size
   clear hk2 hR2 HN HO HC HD HGr HCo HVi HVu
   go_wp2_with (at_builtin; refine wpList_append_lies _ rfl _ _ 29 rfl W.heap.size 22 i0 (.int .u64 0) 1 8 underlying29 hi0 hz0 hz1 hz2 rfl (by decide) _ _ _ rfl HNz.out ⟨bs, 0, none⟩ 1 1 [.int .u64 (F i)] rfl rfl ?c1 ?c2 (by decide) ?c3 ?c4 HSz.out _ rfl ?_)
   case c1 => exact za5 hbs
   case c2 => intro u hu; simp at hu; rcases hu with rfl; rfl
   case c3 => unfold maxLen; omega
   case c4 => omega
   intro g9 cap9 w9 hown9 hgrow9 hat9 _
   have HN9 := hid (Nums.app hown9 rfl)
   have HO9 := hid (HOz.out.grown hgrow9 fun q hq => (World.ownsRow.lt HNz.out q hq).1)
   clear hown9 hgrow9 hat9 HNz HOz hbs ebs HSz
   go_wp2
   go_roundw
   case rel => exact ⟨i + 1, zab i, by omega, HN9, HO9⟩
   case measure => simp [intOf]; omega
  ·have he : no = i := by omega
   subst he
   go_wp2_with fail
   go_ret
   exact ⟨HW0.out.trans HO.out, _, rfl, HN.out.mono HW0.out.size⟩
end
end Go.Proofs.YtlnmjbbpenhdbaaGreat
