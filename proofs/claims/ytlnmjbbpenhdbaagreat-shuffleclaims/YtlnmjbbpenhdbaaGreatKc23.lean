/-
  The statements' box and awake (layer 8).
  Few of layer 8.
  Boxes compared (layer 8).
  Lists of elements of several cells that are appended one by one (layer 8).
  The document's Batch and Order (layer 8).
-/
import Derived.Test.YtlnmjbbpenhdbaaGreatKc22
import Derived.Test.YtlnmjbbpenhdbaaGreatKc05
import Derived.Test.YtlnmjbbpenhdbaaGreatKc11
import Derived.ChangeKeysEq
import Derived.Test.YtlnmjbbpenhdbaaGreatKc04
import Derived.Test.YtlnmjbbpenhdbaaGreatKc09
import Derived.Test.YtlnmjbbpenhdbaaGreatKc08
namespace Go.Proofs.YtlnmjbbpenhdbaaGreat
open Go.RowKit
set_option linter.unusedSimpArgs false
set_option linter.unusedVariables false

abbrev boxV : Value := .agg #[.int .u64 1, .int .u64 4, .int .u64 1, .int .u64 9, .int .u64 4, .int .u64 16]
abbrev boxA : Array Value := #[.int .u64 1, .int .u64 4, .int .u64 1, .int .u64 9, .int .u64 4, .int .u64 16]
theorem info_box : (Tryz.prog.info? 74).map (·.size) = some 6 := by kernel_rfl
theorem box8_any (w : World) : Calls Tryz.prog 47 #[] w (Ret w boxV) := by
  go_enter Tryz.func47, Tryz.ntmps47
  go_wp2_with fail
  exact bodyPost_ret (results_cell_row rfl _ _ _ _ _ (0, 0) _ rfl (heap_alloc_last _ _) Tryz.underlying74 rfl info_box) rfl ⟨rfl, (Old.refl _).alloc _⟩
/-- A row of a kind. -/
def rowK {S : TypeId} (n : Nat) (c : Array Value) (T : TypeId) (hT : S ≠ T) : Ent2 (OldT S) := .u (fun v w => ∃ b, v = .slice (some ⟨b, 0, none⟩) n n ∧ w.heap[b]? = some (.cells c T (0, 0))) fun _ _ _ ⟨b, e, h⟩ ho => ⟨b, e, ho.row hT h⟩
/-- What Prove answered, and its parts. -/
def shP (base n : Nat) (M : Nat → Nat → Int) (A B Pp : Nat → Int) (nt : Nat) (K : Nat → Int) (nz : Nat) (Z : Nat → Int) : Ent2 (OldT 57) := .u (fun v w => ∃ bm cm ba ca bb cb bp cp bk ck bz cz, v = .tuple #[.slice bm n cm, .agg #[.slice ba n ca, .slice bb n cb, .slice bp n cp, .slice bk nt ck, .slice bz nz cz], .bool true] ∧ BoxF w bm n M ∧ Nums w base (.slice ba n ca) n A ∧ Nums w base (.slice bb n cb) n B ∧ Nums w base (.slice bp n cp) n Pp ∧ Nums w base (.slice bk nt ck) nt K ∧ Nums w base (.slice bz nz cz) nz Z)
  fun _ _ _ ⟨bm, cm, ba, ca, bb, cb, bp, cp, bk, ck, bz, cz, e, h, h1, h2, h3, h4, h5⟩ ho => ⟨bm, cm, ba, ca, bb, cb, bp, cp, bk, ck, bz, cz, e, h.oldT (by decide) ho, h1.oldT (by decide) ho, h2.oldT (by decide) ho, h3.oldT (by decide) ho, h4.oldT (by decide) ho, h5.oldT (by decide) ho⟩
def shM (n : Nat) (M : Nat → Nat → Int) : Ent2 (OldT 57) := .u (fun v w => ∃ bm cm, v = .slice bm n cm ∧ BoxF w bm n M) fun _ _ _ ⟨bm, cm, e, h⟩ ho => ⟨bm, cm, e, h.oldT (by decide) ho⟩
def shA (base n : Nat) (A B Pp : Nat → Int) (nt : Nat) (K : Nat → Int) (nz : Nat) (Z : Nat → Int) : Ent2 (OldT 57) := .u (fun v w => ∃ ba ca bb cb bp cp bk ck bz cz, v = .agg #[.slice ba n ca, .slice bb n cb, .slice bp n cp, .slice bk nt ck, .slice bz nz cz] ∧ Nums w base (.slice ba n ca) n A ∧ Nums w base (.slice bb n cb) n B ∧ Nums w base (.slice bp n cp) n Pp ∧ Nums w base (.slice bk nt ck) nt K ∧ Nums w base (.slice bz nz cz) nz Z)
  fun _ _ _ ⟨ba, ca, bb, cb, bp, cp, bk, ck, bz, cz, e, h1, h2, h3, h4, h5⟩ ho => ⟨ba, ca, bb, cb, bp, cp, bk, ck, bz, cz, e, h1.oldT (by decide) ho, h2.oldT (by decide) ho, h3.oldT (by decide) ho, h4.oldT (by decide) ho, h5.oldT (by decide) ho⟩
theorem aw_u64 : (∀ k, k < 6 → U64 (bx8 k)) ∧ (∀ k, k < 3 → U64 (rh8 k)) := by unfold U64; decide
theorem boxs_one {w : World} {b : Nat} (h : w.heap[b]? = some (.cells boxA 74 (0, 0))) : BoxsIn w (some ⟨b, 0, none⟩) 1 awC := Or.inr ⟨b, 0, rfl, obj_lt h, fun j hj k hk => ⟨by
  have : j = 0 := by omega
  subst this
  rw [show 0 + 0 * 6 + k = k by omega, cell_of_row _ _ k _ _ (0, 0) h]
  match k, hk with
  | 0, _ => rfl
  | 1, _ => rfl
  | 2, _ => rfl
  | 3, _ => rfl
  | 4, _ => rfl
  | 5, _ => rfl, aw_u64.1 k hk⟩⟩
theorem ints_one {w : World} {b : Nat} (h : w.heap[b]? = some (.cells #[.int .i64 0] 3 (0, 0))) : IntsIn w (some ⟨b, 0, none⟩) 1 awO := Or.inr ⟨b, 0, rfl, obj_lt h, fun j hj => by
  have : j = 0 := by omega
  subst this
  exact ⟨(cell_of_row _ _ 0 _ _ (0, 0) h).trans rfl, by decide, by decide⟩⟩
theorem rho_one {w : World} {b : Nat} (h : w.heap[b]? = some (.cells #[.int .u64 5, .int .u64 6, .int .u64 7] 63 (0, 0))) : RhoIn w (some ⟨b, 0, none⟩) 1 awR := Or.inr ⟨b, 0, rfl, obj_lt h, fun j hj k hk => ⟨by
  have : j = 0 := by omega
  subst this
  rw [show 0 + 0 * 3 + k = k by omega, cell_of_row _ _ k _ _ (0, 0) h]
  match k, hk with
  | 0, _ => rfl
  | 1, _ => rfl
  | 2, _ => rfl, aw_u64.2 k hk⟩⟩
theorem num_one {w : World} {b : Nat} {x : Int} (hx : U64 x) (h : w.heap[b]? = some (.cells #[.int .u64 x] 22 (0, 0))) : FacsIn w (some ⟨b, 0, none⟩) 1 (fun _ => x) := Or.inr ⟨b, 0, rfl, obj_lt h, fun j hj => by
  have : j = 0 := by omega
  subst this
  exact ⟨(cell_of_row _ _ 0 _ _ (0, 0) h).trans rfl, hx⟩⟩
theorem num_ten {w : World} {b : Nat} (h : w.heap[b]? = some (.cells (madeCells #[Value.int .u64 0] 10) 22 (0, 0))) : FacsIn w (some ⟨b, 0, none⟩) 10 (fun _ => 0) := Or.inr ⟨b, 0, rfl, obj_lt h, fun j hj => by
  refine ⟨?_, (show U64 0 from ⟨by decide, by decide⟩)⟩
  rw [Nat.zero_add, cell_of_row _ _ j _ _ (0, 0) h]
  simp [madeCells, hj, Nat.mod_one]⟩
theorem aw_mx : Mix8 2027 1013 4 9 64 1 awC awO awR (fun _ => 1) (fun _ => 2) (fun _ => 3) := ⟨small_righ, aw_h, by decide +kernel, by decide, by decide, ordB_iff.1 (by decide +kernel), (batB_iff.1 (show batB 2027 1013 1 awC = true by decide +kernel)).2, fun _ _ => (show (0 : Int) ≤ 1 by decide), fun _ _ => (show (0 : Int) ≤ 2 by decide), fun _ _ => (show (0 : Int) ≤ 3 by decide), fun _ _ k hk => (aw_u64.2 k hk).1⟩
/-- A whole value out of cells. -/
theorem run_load_cells {P : Program} (w : World) (b off : Nat) (ty : TypeId) (cs : Array Value) (d : TypeDesc) (hc : ∀ j v, cs[j]? = some v → w.cell? ⟨b, off + j, none⟩ = some v) (hu : P.underlying ty = some d) (hd : aggD d = true) (hi : (P.info? ty).map (·.size) = some cs.size) :
    (loadVar ty ⟨b, off, none⟩).run P w = .ok (.agg cs) w := by
  have hl : (loadCells ⟨b, off, none⟩ cs.toList.length).run P w = .ok cs.toList.toArray w :=
    run_loadCells_list (P := P) w ⟨b, off, none⟩ cs.toList (fun j v hv => by
      have hadd : (⟨b, off, none⟩ : Addr).add j = ⟨b, off + j, none⟩ := by unfold Addr.add; split <;> simp_all
      rw [hadd]
      exact hc j v (by simpa using hv))
  obtain ⟨i, hq, hs⟩ := Option.map_eq_some_iff.1 hi
  have hagg : (isAgg ty).run P w = .ok true w := by
    unfold isAgg
    rw [Sem.run_bind, run_underlying hu w]
    cases d <;> simp_all [aggD]
  simp only [Array.length_toList, Array.toArray_toList] at hl
  simp [loadVar, Sem.run_bind, hagg, sizeOf, typeInfo, hq, hs, hl]
/-- A load of which it is known what it gives. -/
theorem stlv {P : Program} {ops : List Oper} {L0 : List Value} {E : List Ent} {R : World → Prop} {dst : Option Tmp} {ty : TypeId} {pos : String} {after : Array Edge} {guard : Option (Nat × Bool)} {T : TypeId} {x : Operand} {p : Addr} {v : Value} (hc : ∀ wx, R wx → (loadVar T p).run P wx = .ok v wx) (hg : guardT E ⟨dst, .load T x, ty, pos, after, guard⟩ = some true := by rfl) (hx : ∀ t, Act.eval ⟨(fill ops E t 0 L0).toArray, []⟩ x = .pointer (some p) := by intro _; kernel_rfl) : StepT P ops L0 E R ⟨dst, .load T x, ty, pos, after, guard⟩ (.k v) :=
  stw hg fun t wx hR => by simp only [execOp, hx t, Instr.loadAt, Instr.sureAddr, Sem.run_bind, Sem.run_pure, Result.andThen_ok, hc wx hR]
set_option maxRecDepth 100000 in
set_option maxHeartbeats 4000000 in
theorem awake8_any (w : World) : Calls Tryz.prog 12 #[] w (Ret w (.bool true)) := by
  have hmk : ∀ wx : World, (Instr.makeSlice 29 (.int .i64 10) (.int .i64 10)).run Tryz.prog wx = .ok (.slice (some ⟨wx.heap.size, 0, none⟩) 10 10) (wx.alloc (.cells (madeCells #[Value.int .u64 0] 10) 22)) := fun wx => make_run 10 (by omega) wx
  go_enter Tryz.func12, Tryz.ntmps12
  go_upto_region 2 with (go_at_call 46; refine (small4_any _).mono ?_; rintro e w1 ⟨a, FA, rfl, hrow, ho1⟩)
  have HZ := lain1 w1 (gc 2027 1013 4 9 a 5 5) 25
  have HW : Hid (Old w w1) := ho1
  have HG0 := fun w' ho => (HZ.then (W' := w') ho).row 0 (by simp)
  have HOw : Hid (Old w (w1.alloc (.cells (gc 2027 1013 4 9 a 5 5) 25))) := HW.out.trans HZ.old
  clear hrow ho1 HZ HW
  generalize w1.alloc (.cells (gc 2027 1013 4 9 a 5 5) 25) = W at *
  obtain ⟨gb, hgb⟩ : ∃ gb, gb = w1.heap.size := ⟨_, rfl⟩
  have HG : Hid (∀ wx, Old W wx → wx.heap[gb]? = some (.cells (gc 2027 1013 4 9 a 5 5) 25 (0, 0))) := by rw [hgb]; exact HG0
  rw [← hgb]
  clear hgb HG0
  obtain ⟨s, hs⟩ : ∃ s, s = W.heap.size := ⟨_, rfl⟩
  have HD : Hid (∀ wx, Old ((((((W.alloc (.cells #[.int .u64 5, .int .u64 6, .int .u64 7] 63)).alloc (.cells #[.int .u64 1] 22)).alloc (.cells #[.int .u64 2] 22)).alloc (.cells #[.int .u64 3] 22)).alloc (.cells (madeCells #[Value.int .u64 0] 10) 22)).alloc (.cells (dvc (some ⟨s, 0, none⟩) 1 1 (some ⟨s + 1, 0, none⟩) 1 1 (some ⟨s + 1 + 1, 0, none⟩) 1 1 (some ⟨s + 1 + 1 + 1, 0, none⟩) 1 1 (some ⟨s + 1 + 1 + 1 + 1, 0, none⟩) 10 10) 31)) wx → wx.heap[s]? = some (.cells #[.int .u64 5, .int .u64 6, .int .u64 7] 63 (0, 0)) ∧ wx.heap[s + 1]? = some (.cells #[.int .u64 1] 22 (0, 0)) ∧ wx.heap[s + 1 + 1]? = some (.cells #[.int .u64 2] 22 (0, 0)) ∧ wx.heap[s + 1 + 1 + 1]? = some (.cells #[.int .u64 3] 22 (0, 0)) ∧ wx.heap[s + 1 + 1 + 1 + 1]? = some (.cells (madeCells #[Value.int .u64 0] 10) 22 (0, 0)) ∧ wx.heap[s + 1 + 1 + 1 + 1 + 1]? = some (.cells (dvc (some ⟨s, 0, none⟩) 1 1 (some ⟨s + 1, 0, none⟩) 1 1 (some ⟨s + 1 + 1, 0, none⟩) 1 1 (some ⟨s + 1 + 1 + 1, 0, none⟩) 1 1 (some ⟨s + 1 + 1 + 1 + 1, 0, none⟩) 10 10) 31 (0, 0))) := fun wx ho => by
    subst hs
    have L := ((((((Lain.nil W).add (by simp) #[.int .u64 5, .int .u64 6, .int .u64 7] 63).add (by simp) #[.int .u64 1] 22).add (by simp) #[.int .u64 2] 22).add (by simp) #[.int .u64 3] 22).add (by simp) (madeCells #[Value.int .u64 0] 10) 22).add (by simp) (dvc (some ⟨W.heap.size, 0, none⟩) 1 1 (some ⟨W.heap.size + 1, 0, none⟩) 1 1 (some ⟨W.heap.size + 1 + 1, 0, none⟩) 1 1 (some ⟨W.heap.size + 1 + 1 + 1, 0, none⟩) 1 1 (some ⟨W.heap.size + 1 + 1 + 1 + 1, 0, none⟩) 10 10) 31
    have M := L.then ho
    exact ⟨M.row 0 (by simp), M.row 1 (by simp), M.row 2 (by simp), M.row 3 (by simp), M.row 4 (by simp), M.row 5 (by simp)⟩
  have HOd : Hid (Old W ((((((W.alloc (.cells #[.int .u64 5, .int .u64 6, .int .u64 7] 63)).alloc (.cells #[.int .u64 1] 22)).alloc (.cells #[.int .u64 2] 22)).alloc (.cells #[.int .u64 3] 22)).alloc (.cells (madeCells #[Value.int .u64 0] 10) 22)).alloc (.cells (dvc (some ⟨s, 0, none⟩) 1 1 (some ⟨s + 1, 0, none⟩) 1 1 (some ⟨s + 1 + 1, 0, none⟩) 1 1 (some ⟨s + 1 + 1 + 1, 0, none⟩) 1 1 (some ⟨s + 1 + 1 + 1 + 1, 0, none⟩) 10 10) 31))) := ((((((Old.refl W).alloc _).alloc _).alloc _).alloc _).alloc _).alloc _
  go_upto_region 3 with fail
  rw [← hs]
  clear hs hmk
  generalize (((((W.alloc (.cells #[.int .u64 5, .int .u64 6, .int .u64 7] 63)).alloc (.cells #[.int .u64 1] 22)).alloc (.cells #[.int .u64 2] 22)).alloc (.cells #[.int .u64 3] 22)).alloc (.cells (madeCells #[Value.int .u64 0] 10) 22)).alloc (.cells (dvc (some ⟨s, 0, none⟩) 1 1 (some ⟨s + 1, 0, none⟩) 1 1 (some ⟨s + 1 + 1, 0, none⟩) 1 1 (some ⟨s + 1 + 1 + 1, 0, none⟩) 1 1 (some ⟨s + 1 + 1 + 1 + 1, 0, none⟩) 10 10) 31) = V at *
  have HGv : Hid (∀ wx, Old V wx → wx.heap[gb]? = some (.cells (gc 2027 1013 4 9 a 5 5) 25 (0, 0))) := fun wx ho => HG.out wx (HOd.out.trans ho)
  have HDv : Hid (∀ wx, Old V wx → wx.heap[s + 1 + 1 + 1 + 1 + 1]? = some (.cells (dvc (some ⟨s, 0, none⟩) 1 1 (some ⟨s + 1, 0, none⟩) 1 1 (some ⟨s + 1 + 1, 0, none⟩) 1 1 (some ⟨s + 1 + 1 + 1, 0, none⟩) 1 1 (some ⟨s + 1 + 1 + 1 + 1, 0, none⟩) 10 10) 31 (0, 0))) := fun wx ho => (HD.out wx ho).2.2.2.2.2
  have HPv : Hid (∀ wx b b2, Old V wx → wx.heap[b]? = some (.cells boxA 74 (0, 0)) → wx.heap[b2]? = some (.cells #[.int .i64 0] 3 (0, 0)) → Calls Tryz.prog 31 #[gv 2027 1013 4 9 a 5 5, .string ⟨#[97]⟩, .int .u64 64, .slice (some ⟨b, 0, none⟩) 1 1, .slice (some ⟨b2, 0, none⟩) 1 1, dv (some ⟨s, 0, none⟩) 1 1 (some ⟨s + 1, 0, none⟩) 1 1 (some ⟨s + 1 + 1, 0, none⟩) 1 1 (some ⟨s + 1 + 1 + 1, 0, none⟩) 1 1 (some ⟨s + 1 + 1 + 1 + 1, 0, none⟩) 10 10] wx (GivS wx true 1 awM (aF 2027 1013 4 9 awO (fun _ => 1)) (mxB 2027 1013 4 9 [97] 64 1 awC awO awR (fun _ => 1) (fun _ => 2)) (mxP 2027 1013 4 9 [97] 64 1 awC awO awR (fun _ => 1) (fun _ => 2) (fun _ => 3)) 10 (mxK 2027 1013 4 9 [97] 64 1 awC awO awR (fun _ => 1) (fun _ => 2) (fun _ => 3) (fun _ => 0)) 10 (mxZ 2027 1013 4 9 [97] 64 1 awC awO awR (fun _ => 1) (fun _ => 2) (fun _ => 3) (fun _ => 0)))) := fun wx b b2 ho hb hi => by
    obtain ⟨d0, d1, d2, d3, d4, _⟩ := HD.out wx ho
    have h := sprove_any 2027 1013 4 9 a 5 5 [97] 64 (some ⟨b, 0, none⟩) 1 1 awC (some ⟨b2, 0, none⟩) 1 1 awO (some ⟨s, 0, none⟩) 1 1 awR (some ⟨s + 1, 0, none⟩) 1 1 (fun _ => 1) (some ⟨s + 1 + 1, 0, none⟩) 1 1 (fun _ => 2) (some ⟨s + 1 + 1 + 1, 0, none⟩) 1 1 (fun _ => 3) (some ⟨s + 1 + 1 + 1 + 1, 0, none⟩) 10 10 (fun _ => 0) wx four_sm small_righ aw_h ⟨by decide, by decide⟩ (by unfold Bts; decide) (by decide) (by decide) (by decide) (by decide) ⟨by decide, by decide⟩ (by decide) (boxs_one hb) (ints_one hi) (rho_one d0) (num_one ⟨by decide, by decide⟩ d1) (num_one ⟨by decide, by decide⟩ d2) (num_one ⟨by decide, by decide⟩ d3) (num_ten d4)
    rw [aw_mix, aw_drw, show strOfNums [97] = ⟨#[97]⟩ by decide +kernel] at h
    exact h
  have HBx : Hid (∀ wx, Calls Tryz.prog 47 #[] wx (Ret wx boxV)) := fun wx => box8_any wx
  refine wp_region_tab2 (Rl := OldT 57) 14 [.k (gv 2027 1013 4 9 a 5 5), .k (boxV), rowK 1 boxA 74 (by decide), rowK 1 #[.int .i64 0] 3 (by decide), .k (dv (some ⟨s, 0, none⟩) 1 1 (some ⟨s + 1, 0, none⟩) 1 1 (some ⟨s + 1 + 1, 0, none⟩) 1 1 (some ⟨s + 1 + 1 + 1, 0, none⟩) 1 1 (some ⟨s + 1 + 1 + 1 + 1, 0, none⟩) 10 10), shP V.heap.size 1 awM (aF 2027 1013 4 9 awO (fun _ => 1)) (mxB 2027 1013 4 9 [97] 64 1 awC awO awR (fun _ => 1) (fun _ => 2)) (mxP 2027 1013 4 9 [97] 64 1 awC awO awR (fun _ => 1) (fun _ => 2) (fun _ => 3)) 10 (mxK 2027 1013 4 9 [97] 64 1 awC awO awR (fun _ => 1) (fun _ => 2) (fun _ => 3) (fun _ => 0)) 10 (mxZ 2027 1013 4 9 [97] 64 1 awC awO awR (fun _ => 1) (fun _ => 2) (fun _ => 3) (fun _ => 0)), shP V.heap.size 1 awM (aF 2027 1013 4 9 awO (fun _ => 1)) (mxB 2027 1013 4 9 [97] 64 1 awC awO awR (fun _ => 1) (fun _ => 2)) (mxP 2027 1013 4 9 [97] 64 1 awC awO awR (fun _ => 1) (fun _ => 2) (fun _ => 3)) 10 (mxK 2027 1013 4 9 [97] 64 1 awC awO awR (fun _ => 1) (fun _ => 2) (fun _ => 3) (fun _ => 0)) 10 (mxZ 2027 1013 4 9 [97] 64 1 awC awO awR (fun _ => 1) (fun _ => 2) (fun _ => 3) (fun _ => 0)), shM 1 awM, shA V.heap.size 1 (aF 2027 1013 4 9 awO (fun _ => 1)) (mxB 2027 1013 4 9 [97] 64 1 awC awO awR (fun _ => 1) (fun _ => 2)) (mxP 2027 1013 4 9 [97] 64 1 awC awO awR (fun _ => 1) (fun _ => 2) (fun _ => 3)) 10 (mxK 2027 1013 4 9 [97] 64 1 awC awO awR (fun _ => 1) (fun _ => 2) (fun _ => 3) (fun _ => 0)) 10 (mxZ 2027 1013 4 9 [97] 64 1 awC awO awR (fun _ => 1) (fun _ => 2) (fun _ => 3) (fun _ => 0)), .k (.bool true), varE 57 5 V.heap.size, shM 1 awM, putE 57 10 8 V.heap.size, .k (.bool true)] (Old V) (by kernel_rfl) (by kernel_rfl) rfl (by kernel_rfl) ((Old.refl _).drew) ?st ?_
  case st =>
    refine .c (stsy Tryz.underlying25 HGv.out) <|
      .c (stKy old_R Tryz.func47 (fun wx _ => HBx.out wx)) <|
      .c (stmy (ob := fun _ => .cells boxA 74) (v := fun s => .slice (some ⟨s, 0, none⟩) 1 1) old_R fun t wx hR hd => ⟨_, rfl, heap_alloc_last _ _⟩) <|
      .c (stmy (ob := fun _ => .cells #[.int .i64 0] 3) (v := fun s => .slice (some ⟨s, 0, none⟩) 1 1) old_R fun t wx hR hd => ⟨_, rfl, heap_alloc_last _ _⟩) <|
      .c (stsy Tryz.underlying31 HDv.out) <|
      .c (stCy (args := fun t => #[gv 2027 1013 4 9 a 5 5, .string ⟨#[97]⟩, .int .u64 64, t 2, t 3, dv (some ⟨s, 0, none⟩) 1 1 (some ⟨s + 1, 0, none⟩) 1 1 (some ⟨s + 1 + 1, 0, none⟩) 1 1 (some ⟨s + 1 + 1 + 1, 0, none⟩) 1 1 (some ⟨s + 1 + 1 + 1 + 1, 0, none⟩) 10 10]) old_R Tryz.func31 fun t wx hR hd => ?_) <|
      .c (stxy fun t wx hR hd => ⟨t 5, by kernel_rfl, hd 5 (by kernel_rfl)⟩) <|
      .c (stxy fun t wx hR hd => ?_) <|
      .c (stxy fun t wx hR hd => ?_) <|
      .c (stzy fun t wx hR hd => ?_) <|
      .c (stmy (ob := fun _ => .cells #[.slice none 0 0, .slice none 0 0, .slice none 0 0, .slice none 0 0, .slice none 0 0] 57) (v := fun s => .pointer (some ⟨s, 0, none⟩)) old_R fun t wx hR hd => ⟨_, rfl, hR.size, _, heap_alloc_last _ _, rfl⟩) <|
      .c (stxy fun t wx hR hd => ⟨t 7, by kernel_rfl, hd 7 (by kernel_rfl)⟩) <|
      .c (stPy (n := 5) (fun _ _ => True) (fun w g cells h hg => h.setRow hg cells) fun t wx hR hd => ?_) <|
      .c stpy .n
    · obtain ⟨b, e2, hb⟩ : ∃ b, t 2 = .slice (some ⟨b, 0, none⟩) 1 1 ∧ wx.heap[b]? = some (.cells boxA 74 (0, 0)) := hd 2 (by kernel_rfl)
      obtain ⟨b2, e3, hi⟩ : ∃ b, t 3 = .slice (some ⟨b, 0, none⟩) 1 1 ∧ wx.heap[b]? = some (.cells #[.int .i64 0] 3 (0, 0)) := hd 3 (by kernel_rfl)
      rw [e2, e3]
      refine (HPv.out wx b b2 hR hb hi).mono ?_
      rintro e w' ⟨ho, bm, cm, va, vb, vp, vk, vz, rfl, h0, h1, h2, h3, h4, h5⟩
      simp only [if_true] at h0 h1 h2 h3 h4 h5
      obtain ⟨ba, ca, rfl⟩ := own_slice8 h1
      obtain ⟨bb, cb, rfl⟩ := own_slice8 h2
      obtain ⟨bp, cp, rfl⟩ := own_slice8 h3
      obtain ⟨bk, ck, rfl⟩ := own_slice8 h4
      obtain ⟨bz, cz, rfl⟩ := own_slice8 h5
      exact ⟨_, rfl, ho, bm, cm, ba, ca, bb, cb, bp, cp, bk, ck, bz, cz, rfl, h0, h1.mono hR.size, h2.mono hR.size, h3.mono hR.size, h4.mono hR.size, h5.mono hR.size⟩
    · obtain ⟨bm, cm, ba, ca, bb, cb, bp, cp, bk, ck, bz, cz, e, hb, N1, N2, N3, N4, N5⟩ : ∃ bm cm ba ca bb cb bp cp bk ck bz cz, t 6 = .tuple #[.slice bm 1 cm, .agg #[.slice ba 1 ca, .slice bb 1 cb, .slice bp 1 cp, .slice bk 10 ck, .slice bz 10 cz], .bool true] ∧ BoxF wx bm 1 awM ∧ Nums wx V.heap.size (.slice ba 1 ca) 1 (aF 2027 1013 4 9 awO (fun _ => 1)) ∧ Nums wx V.heap.size (.slice bb 1 cb) 1 (mxB 2027 1013 4 9 [97] 64 1 awC awO awR (fun _ => 1) (fun _ => 2)) ∧ Nums wx V.heap.size (.slice bp 1 cp) 1 (mxP 2027 1013 4 9 [97] 64 1 awC awO awR (fun _ => 1) (fun _ => 2) (fun _ => 3)) ∧ Nums wx V.heap.size (.slice bk 10 ck) 10 (mxK 2027 1013 4 9 [97] 64 1 awC awO awR (fun _ => 1) (fun _ => 2) (fun _ => 3) (fun _ => 0)) ∧ Nums wx V.heap.size (.slice bz 10 cz) 10 (mxZ 2027 1013 4 9 [97] 64 1 awC awO awR (fun _ => 1) (fun _ => 2) (fun _ => 3) (fun _ => 0)) := hd 6 (by kernel_rfl)
      exact ⟨_, run_extract8 (Eq.trans (b := t 6) (by kernel_rfl) e) rfl, bm, cm, rfl, hb⟩
    · obtain ⟨bm, cm, ba, ca, bb, cb, bp, cp, bk, ck, bz, cz, e, hb, N1, N2, N3, N4, N5⟩ : ∃ bm cm ba ca bb cb bp cp bk ck bz cz, t 6 = .tuple #[.slice bm 1 cm, .agg #[.slice ba 1 ca, .slice bb 1 cb, .slice bp 1 cp, .slice bk 10 ck, .slice bz 10 cz], .bool true] ∧ BoxF wx bm 1 awM ∧ Nums wx V.heap.size (.slice ba 1 ca) 1 (aF 2027 1013 4 9 awO (fun _ => 1)) ∧ Nums wx V.heap.size (.slice bb 1 cb) 1 (mxB 2027 1013 4 9 [97] 64 1 awC awO awR (fun _ => 1) (fun _ => 2)) ∧ Nums wx V.heap.size (.slice bp 1 cp) 1 (mxP 2027 1013 4 9 [97] 64 1 awC awO awR (fun _ => 1) (fun _ => 2) (fun _ => 3)) ∧ Nums wx V.heap.size (.slice bk 10 ck) 10 (mxK 2027 1013 4 9 [97] 64 1 awC awO awR (fun _ => 1) (fun _ => 2) (fun _ => 3) (fun _ => 0)) ∧ Nums wx V.heap.size (.slice bz 10 cz) 10 (mxZ 2027 1013 4 9 [97] 64 1 awC awO awR (fun _ => 1) (fun _ => 2) (fun _ => 3) (fun _ => 0)) := hd 6 (by kernel_rfl)
      exact ⟨_, run_extract8 (Eq.trans (b := t 6) (by kernel_rfl) e) rfl, ba, ca, bb, cb, bp, cp, bk, ck, bz, cz, rfl, N1, N2, N3, N4, N5⟩
    · obtain ⟨bm, cm, ba, ca, bb, cb, bp, cp, bk, ck, bz, cz, e, hb, N1, N2, N3, N4, N5⟩ : ∃ bm cm ba ca bb cb bp cp bk ck bz cz, t 6 = .tuple #[.slice bm 1 cm, .agg #[.slice ba 1 ca, .slice bb 1 cb, .slice bp 1 cp, .slice bk 10 ck, .slice bz 10 cz], .bool true] ∧ BoxF wx bm 1 awM ∧ Nums wx V.heap.size (.slice ba 1 ca) 1 (aF 2027 1013 4 9 awO (fun _ => 1)) ∧ Nums wx V.heap.size (.slice bb 1 cb) 1 (mxB 2027 1013 4 9 [97] 64 1 awC awO awR (fun _ => 1) (fun _ => 2)) ∧ Nums wx V.heap.size (.slice bp 1 cp) 1 (mxP 2027 1013 4 9 [97] 64 1 awC awO awR (fun _ => 1) (fun _ => 2) (fun _ => 3)) ∧ Nums wx V.heap.size (.slice bk 10 ck) 10 (mxK 2027 1013 4 9 [97] 64 1 awC awO awR (fun _ => 1) (fun _ => 2) (fun _ => 3) (fun _ => 0)) ∧ Nums wx V.heap.size (.slice bz 10 cz) 10 (mxZ 2027 1013 4 9 [97] 64 1 awC awO awR (fun _ => 1) (fun _ => 2) (fun _ => 3) (fun _ => 0)) := hd 6 (by kernel_rfl)
      exact run_extract8 (Eq.trans (b := t 6) (by kernel_rfl) e) rfl
    · obtain ⟨ba, ca, bb, cb, bp, cp, bk, ck, bz, cz, e8, _⟩ : ∃ ba ca bb cb bp cp bk ck bz cz, t 8 = .agg #[.slice ba 1 ca, .slice bb 1 cb, .slice bp 1 cp, .slice bk 10 ck, .slice bz 10 cz] ∧ _ := hd 8 (by kernel_rfl)
      obtain ⟨b, e10, hb, cs, hcs, hs⟩ : ∃ b, t 10 = .pointer (some ⟨b, 0, none⟩) ∧ V.heap.size ≤ b ∧ ∃ cs, wx.heap[b]? = some (.cells cs 57 (0, 0)) ∧ cs.size = 5 := hd 10 (by kernel_rfl)
      exact ⟨b, _, cs, e10, e8, hb, hcs, hs, rfl, by simp [Value.oneCell']⟩
  intro t wx hR hk
  simp only [fill2, Ent2.val, rowK, shP, shM, shA, varE, putE, List.set_cons_zero, List.set_cons_succ, List.drop_succ_cons, List.drop_zero, List.drop_nil]
  obtain ⟨bm, cm, e11, hbm⟩ : ∃ bm cm, t 11 = .slice bm 1 cm ∧ BoxF wx bm 1 awM := hk 11 (by omega)
  obtain ⟨ps, cs, e12, hps, hrow⟩ : ∃ b cs, [t 10, t 8] = [.pointer (some ⟨b, 0, none⟩), .agg cs] ∧ V.heap.size ≤ b ∧ wx.heap[b]? = some (.cells cs 57 (0, 0)) := hk 12 (by omega)
  obtain ⟨ba, ca, bb, cb, bp, cp, bk, ck, bz, cz, e8, N1, N2, N3, N4, N5⟩ : ∃ ba ca bb cb bp cp bk ck bz cz, t 8 = .agg #[.slice ba 1 ca, .slice bb 1 cb, .slice bp 1 cp, .slice bk 10 ck, .slice bz 10 cz] ∧ Nums wx V.heap.size (.slice ba 1 ca) 1 (aF 2027 1013 4 9 awO (fun _ => 1)) ∧ Nums wx V.heap.size (.slice bb 1 cb) 1 (mxB 2027 1013 4 9 [97] 64 1 awC awO awR (fun _ => 1) (fun _ => 2)) ∧ Nums wx V.heap.size (.slice bp 1 cp) 1 (mxP 2027 1013 4 9 [97] 64 1 awC awO awR (fun _ => 1) (fun _ => 2) (fun _ => 3)) ∧ Nums wx V.heap.size (.slice bk 10 ck) 10 (mxK 2027 1013 4 9 [97] 64 1 awC awO awR (fun _ => 1) (fun _ => 2) (fun _ => 3) (fun _ => 0)) ∧ Nums wx V.heap.size (.slice bz 10 cz) 10 (mxZ 2027 1013 4 9 [97] 64 1 awC awO awR (fun _ => 1) (fun _ => 2) (fun _ => 3) (fun _ => 0)) := hk 8 (by omega)
  rw [e8] at e12
  have e10 : t 10 = .pointer (some ⟨ps, 0, none⟩) := by injection e12
  have ecs : cs = #[.slice ba 1 ca, .slice bb 1 cb, .slice bp 1 cp, .slice bk 10 ck, .slice bz 10 cz] := by
    injection e12 with _ e12
    injection e12 with e12 _
    injection e12 with e12
    exact e12.symm
  subst ecs
  rw [e10, e11]
  clear e8 e10 e11 e12 hk
  have HV : Hid (Old V wx) := hR
  rcases hbm with h0 | ⟨mb, mcs, rfl, hmb, hmc⟩
  · cases h0
  have HM : Hid (∀ wy, Old wx wy → BoxsIn wy (some ⟨mb, 0, none⟩) 1 awM) := fun wy ho => (BoxF.boxs (Or.inr ⟨mb, mcs, rfl, hmb, hmc⟩)).old ho
  have HMl : Hid (∀ wy, Old wx wy → (loadVar 74 ⟨mb, 0, none⟩).run Tryz.prog wy = .ok (.agg #[.int .u64 1024, .int .u64 1590, .int .u64 42, .int .u64 1936, .int .u64 672, .int .u64 1583]) wy) := fun wy ho => run_load_cells wy mb 0 _ _ _ (fun j v hv => by
    have hh := (ho.block _ (obj_lt hmb)).trans hmb
    rw [Nat.zero_add, cell_of_row _ _ j _ _ (0, 0) hh]
    have hj : j < 6 := (Array.getElem?_eq_some_iff.1 hv).1
    have := (hmc 0 (by omega) j hj).1
    rw [aw_M j hj, Nat.zero_mul, Nat.zero_add] at this
    rw [this, ← hv]
    match j, hj with
    | 0, _ => rfl
    | 1, _ => rfl
    | 2, _ => rfl
    | 3, _ => rfl
    | 4, _ => rfl
    | 5, _ => rfl) Tryz.underlying74 rfl info_box
  have HSr : Hid (∀ wy, Old wx wy → wy.heap[ps]? = some (.cells #[.slice ba 1 ca, .slice bb 1 cb, .slice bp 1 cp, .slice bk 10 ck, .slice bz 10 cz] 57 (0, 0))) := fun wy ho => (ho.block _ (obj_lt hrow)).trans hrow
  have HGx : Hid (∀ wy, Old wx wy → wy.heap[gb]? = some (.cells (gc 2027 1013 4 9 a 5 5) 25 (0, 0))) := fun wy ho => HGv.out wy (HV.out.trans ho)
  have uA : ∀ i, i < 1 → U64 ((aF 2027 1013 4 9 awO (fun _ => 1)) i) := fun i _ => u64_com8 _ _ _ _ _ _
  have uB : ∀ i, i < 1 → U64 ((mxB 2027 1013 4 9 [97] 64 1 awC awO awR (fun _ => 1) (fun _ => 2)) i) := fun i _ => u64_com8 _ _ _ _ _ _
  have uP : ∀ i, i < 1 → U64 ((mxP 2027 1013 4 9 [97] 64 1 awC awO awR (fun _ => 1) (fun _ => 2) (fun _ => 3)) i) := fun i _ => thi_u64 _ _ _ _ _ _ _ _ _ _ _ i
  have uK : ∀ i, i < 10 → U64 ((mxK 2027 1013 4 9 [97] 64 1 awC awO awR (fun _ => 1) (fun _ => 2) (fun _ => 3) (fun _ => 0)) i) := fun i _ => u64_prod _ _ _
  have uZ : ∀ i, i < 10 → U64 ((mxZ 2027 1013 4 9 [97] 64 1 awC awO awR (fun _ => 1) (fun _ => 2) (fun _ => 3) (fun _ => 0)) i) := fun i _ => u64_ans _ _ _ _
  obtain ⟨_, _, E1, q1, q2, f1⟩ := N1.facs2 uA
  obtain ⟨_, _, E2, q3, q4, f2⟩ := N2.facs2 uB
  obtain ⟨_, _, E3, _, _, f3⟩ := N3.facs2 uP
  obtain ⟨_, _, E4, _, _, f4⟩ := N4.facs2 uK
  obtain ⟨_, _, E5, _, _, f5⟩ := N5.facs2 uZ
  cases E1
  cases E2
  cases E3
  cases E4
  cases E5
  have HAc : Hid (∀ wy (bi : Option Addr) (C : Nat → Nat → Int) (ci co : Nat) r, Old wx wy → BoxsIn wy bi 1 C → accG 2027 1013 4 9 [97] 64 1 C 1 awM 1 (aF 2027 1013 4 9 awO (fun _ => 1)) 1 (mxB 2027 1013 4 9 [97] 64 1 awC awO awR (fun _ => 1) (fun _ => 2)) 1 (mxP 2027 1013 4 9 [97] 64 1 awC awO awR (fun _ => 1) (fun _ => 2) (fun _ => 3)) 10 (mxK 2027 1013 4 9 [97] 64 1 awC awO awR (fun _ => 1) (fun _ => 2) (fun _ => 3) (fun _ => 0)) 10 (mxZ 2027 1013 4 9 [97] 64 1 awC awO awR (fun _ => 1) (fun _ => 2) (fun _ => 3) (fun _ => 0)) = r → Calls Tryz.prog 34 #[gv 2027 1013 4 9 a 5 5, .string ⟨#[97]⟩, .int .u64 64, .slice bi 1 ci, .slice (some ⟨mb, 0, none⟩) 1 co, .agg #[.slice ba 1 ca, .slice bb 1 cb, .slice bp 1 cp, .slice bk 10 ck, .slice bz 10 cz]] wy (Ret wy (.bool r))) := fun wy bi C ci co r ho hb hr => by
    have h := saccept_any 2027 1013 4 9 a 5 5 [97] 64 bi 1 ci C (some ⟨mb, 0, none⟩) 1 co awM ba 1 ca _ bb 1 cb _ bp 1 cp _ bk 10 ck _ bz 10 cz _ wy four_sm small_righ ⟨by decide, by decide⟩ (by unfold Bts; decide) (by decide) (by decide) ⟨q1, q2⟩ ⟨q3, q4⟩ (by decide) hb (HM.out wy ho) (f1.old ho) (f2.old ho) (f3.old ho) (f4.old ho) (f5.old ho)
    rw [show strOfNums [97] = ⟨#[97]⟩ by decide +kernel, hr] at h
    exact h
  have HYes : Hid (accG 2027 1013 4 9 [97] 64 1 awC 1 awM 1 (aF 2027 1013 4 9 awO (fun _ => 1)) 1 (mxB 2027 1013 4 9 [97] 64 1 awC awO awR (fun _ => 1) (fun _ => 2)) 1 (mxP 2027 1013 4 9 [97] 64 1 awC awO awR (fun _ => 1) (fun _ => 2) (fun _ => 3)) 10 (mxK 2027 1013 4 9 [97] 64 1 awC awO awR (fun _ => 1) (fun _ => 2) (fun _ => 3) (fun _ => 0)) 10 (mxZ 2027 1013 4 9 [97] 64 1 awC awO awR (fun _ => 1) (fun _ => 2) (fun _ => 3) (fun _ => 0)) = true) := aw_mx.accG [97] fun k _ => Int.le_refl 0
  have HNo : Hid (accG 2027 1013 4 9 [97] 64 1 awM 1 awM 1 (aF 2027 1013 4 9 awO (fun _ => 1)) 1 (mxB 2027 1013 4 9 [97] 64 1 awC awO awR (fun _ => 1) (fun _ => 2)) 1 (mxP 2027 1013 4 9 [97] 64 1 awC awO awR (fun _ => 1) (fun _ => 2) (fun _ => 3)) 10 (mxK 2027 1013 4 9 [97] 64 1 awC awO awR (fun _ => 1) (fun _ => 2) (fun _ => 3) (fun _ => 0)) 10 (mxZ 2027 1013 4 9 [97] 64 1 awC awO awR (fun _ => 1) (fun _ => 2) (fun _ => 3) (fun _ => 0)) = false) := aw_no _ _ _ _
  clear N1 N2 N3 N4 N5 f1 f2 f3 f4 f5 uA uB uP uK uZ hR hrow hmb hmc hps HPv HGv HDv HD HG q1 q2 q3 q4
  generalize aF 2027 1013 4 9 awO (fun _ => 1) = lA at *
  generalize mxB 2027 1013 4 9 [97] 64 1 awC awO awR (fun _ => 1) (fun _ => 2) = lB at *
  generalize mxP 2027 1013 4 9 [97] 64 1 awC awO awR (fun _ => 1) (fun _ => 2) (fun _ => 3) = lP at *
  generalize mxK 2027 1013 4 9 [97] 64 1 awC awO awR (fun _ => 1) (fun _ => 2) (fun _ => 3) (fun _ => 0) = lK at *
  generalize mxZ 2027 1013 4 9 [97] 64 1 awC awO awR (fun _ => 1) (fun _ => 2) (fun _ => 3) (fun _ => 0) = lZ at *
  go_upto_region 4 with fail
  refine wp_region_tab 30 [.k (.bool true), .k (.bool true), .k (.slice (some ⟨mb, 0, none⟩) 1 cm), .k (.int .i64 (1 : Nat)), .k (.bool true), .k (.bool true), .k (.bool true), .k (.slice (some ⟨mb, 0, none⟩) 1 cm), .k (.pointer (some ⟨mb, 0 * 6, none⟩)), .k (.agg #[.int .u64 1024, .int .u64 1590, .int .u64 42, .int .u64 1936, .int .u64 672, .int .u64 1583]), .k (boxV), .k (.bool true), .k (.bool true), .k (.bool true), .k (gv 2027 1013 4 9 a 5 5), .k (boxV), blkE 1 boxA 74, .k (.slice (some ⟨mb, 0, none⟩) 1 cm), .k (.agg #[.slice ba 1 ca, .slice bb 1 cb, .slice bp 1 cp, .slice bk 10 ck, .slice bz 10 cz]), .k (.bool true), .k (.bool true), .k (.bool true), .k (gv 2027 1013 4 9 a 5 5), .k (.slice (some ⟨mb, 0, none⟩) 1 cm), .k (.slice (some ⟨mb, 0, none⟩) 1 cm), .k (.agg #[.slice ba 1 ca, .slice bb 1 cb, .slice bp 1 cp, .slice bk 10 ck, .slice bz 10 cz]), .k (.bool false), .k (.bool true), .k (.bool true), .k (.bool true)] (Old wx) (by kernel_rfl) (by kernel_rfl) rfl ((Old.refl _).drew) ?st ?_
  case st =>
    refine .c stp <|
      .c stp <|
      .c stp <|
      .c stp <|
      .c stp <|
      .c stp <|
      .c stp <|
      .c stp <|
      .c (stj0 (n := 1) (c := cm) 6 (by omega) Tryz.underlying26) <|
      .c (stlv HMl.out) <|
      .c (stK old_R Tryz.func47 (fun wx _ => HBx.out wx)) <|
      .c stp <|
      .c stp <|
      .c stp <|
      .c (sts Tryz.underlying25 HGx.out) <|
      .c (stK old_R Tryz.func47 (fun wx _ => HBx.out wx)) <|
      .c (stm (ob := fun t => .cells boxA 74) (v := fun s => .slice (some ⟨s, 0, none⟩) 1 1) old_R fun t wx hR hd => ⟨_, rfl, heap_alloc_last _ _⟩) <|
      .c stp <|
      .c (sts Tryz.underlying57 HSr.out) <|
      .c (stC (args := fun t => #[gv 2027 1013 4 9 a 5 5, .string ⟨#[97]⟩, .int .u64 64, t 16, .slice (some ⟨mb, 0, none⟩) 1 cm, .agg #[.slice ba 1 ca, .slice bb 1 cb, .slice bp 1 cp, .slice bk 10 ck, .slice bz 10 cz]]) old_R Tryz.func34 fun t wy hR hd => ?_) <|
      .c stp <|
      .c stp <|
      .c (sts Tryz.underlying25 HGx.out) <|
      .c stp <|
      .c stp <|
      .c (sts Tryz.underlying57 HSr.out) <|
      .c (stK old_R Tryz.func34 (fun wy ho => HAc.out wy (some ⟨mb, 0, none⟩) awM cm cm false ho (HM.out wy ho) HNo.out)) <|
      .c stp <|
      .c stp <|
      .c stp .n
    · obtain ⟨b, e, hb⟩ : ∃ b, t 16 = .slice (some ⟨b, 0, none⟩) 1 1 ∧ wy.heap[b]? = some (.cells boxA 74 (0, 0)) := hd 16 (by kernel_rfl)
      rw [e]
      exact (HAc.out wy (some ⟨b, 0, none⟩) awC 1 cm true hR (boxs_one hb) HYes.out).mono fun r w' ⟨h, k⟩ => ⟨_, h, k, rfl⟩
  intro t wz hR hk
  simp only [fill, Ent.val, blkE, List.set_cons_zero, List.set_cons_succ, List.drop_succ_cons, List.drop_zero, List.drop_nil]
  have HO9 : Hid (Old w wz) := (HOw.out.trans HOd.out).trans (HV.out.trans hR)
  clear hR hk
  go_wp2_with fail
  go_ret
  exact ⟨rfl, HO9.out⟩

end Go.Proofs.YtlnmjbbpenhdbaaGreat

namespace Go.Proofs.YtlnmjbbpenhdbaaGreat
open Go.RowKit
set_option linter.unusedSimpArgs false
set_option linter.unusedVariables false

/-- A job: its label, key, batch, order and draws. -/
abbrev jv (label : List Int) (y : Int) (bi : Option Addr) (l ci : Nat) (bo : Option Addr) (no co : Nat) (bρ : Option Addr) (nρ cρ : Nat) (bR : Option Addr) (nR cR : Nat) (bS : Option Addr) (nS cS : Nat) (bT : Option Addr) (nT cT : Nat) (bD : Option Addr) (nD cD : Nat) : Value := .agg #[.string (strOfNums label), .int .u64 y, .slice bi l ci, .slice bo no co, .slice bρ nρ cρ, .slice bR nR cR, .slice bS nS cS, .slice bT nT cT, .slice bD nD cD]
abbrev jvc (label : List Int) (y : Int) (bi : Option Addr) (l ci : Nat) (bo : Option Addr) (no co : Nat) (bρ : Option Addr) (nρ cρ : Nat) (bR : Option Addr) (nR cR : Nat) (bS : Option Addr) (nS cS : Nat) (bT : Option Addr) (nT cT : Nat) (bD : Option Addr) (nD cD : Nat) : Array Value := #[.string (strOfNums label), .int .u64 y, .slice bi l ci, .slice bo no co, .slice bρ nρ cρ, .slice bR nR cR, .slice bS nS cS, .slice bT nT cT, .slice bD nD cD]
def fewR (nρ nR nS nT nD : Nat) : Bool := decide (nρ ≤ 10 ∧ nR ≤ 10 ∧ nS ≤ 10 ∧ nT ≤ 10 ∧ nD ≤ 80)
def fewJ (ln l no nρ nR nS nT nD : Nat) : Bool := decide (ln ≤ 100 ∧ l ≤ 10 ∧ no ≤ 10) && fewR nρ nR nS nT nD
theorem fewJ_iff {ln l no nρ nR nS nT nD : Nat} : fewJ ln l no nρ nR nS nT nD = true ↔ (ln ≤ 100 ∧ l ≤ 10 ∧ no ≤ 10) ∧ nρ ≤ 10 ∧ nR ≤ 10 ∧ nS ≤ 10 ∧ nT ≤ 10 ∧ nD ≤ 80 := by unfold fewJ fewR; simp [Bool.and_eq_true_iff]
set_option maxRecDepth 100000 in
set_option maxHeartbeats 4000000 in
theorem few8d_any (bρ : Option Addr) (nρ cρ : Nat) (bR : Option Addr) (nR cR : Nat) (bS : Option Addr) (nS cS : Nat) (bT : Option Addr) (nT cT : Nat) (bD : Option Addr) (nD cD : Nat) (w : World) : Calls Tryz.prog 49 #[dv bρ nρ cρ bR nR cR bS nS cS bT nT cT bD nD cD] w (Ret w (.bool (fewR nρ nR nS nT nD))) := by
  have HZ := lain1 w (dvc bρ nρ cρ bR nR cR bS nS cS bT nT cT bD nD cD) 31
  have HW0 : Hid (Old w (w.alloc (.cells (dvc bρ nρ cρ bR nR cR bS nS cS bT nT cT bD nD cD) 31))) := HZ.old
  have d0 := HZ.cell 0 0 (by simp) rfl
  have d1 := HZ.cell 0 1 (by simp) rfl
  have d2 := HZ.cell 0 2 (by simp) rfl
  have d3 := HZ.cell 0 3 (by simp) rfl
  have d4 := HZ.cell 0 4 (by simp) rfl
  clear HZ
  simp only [Nat.add_zero] at d0 d1 d2 d3 d4
  by_cases h0 : nρ ≤ 10
  rotate_left
  · have k0 : ¬ (nρ : Int) ≤ 10 := by omega
    have HV : Hid (fewR nρ nR nS nT nD = false) := by unfold Hid fewR; simp [h0]
    rw [HV.out]
    clear h0
    go_enter Tryz.func49, Tryz.ntmps49
    go_upto_region 1 with fail
    generalize w.alloc (.cells (dvc bρ nρ cρ bR nR cR bS nS cS bT nT cT bD nD cD) 31) = W at *
    go_wp2_with fail
    go_ret
    exact ⟨rfl, HW0.out⟩
  have k0 : (nρ : Int) ≤ 10 := by omega
  by_cases h1 : nR ≤ 10
  rotate_left
  · have k1 : ¬ (nR : Int) ≤ 10 := by omega
    have HV : Hid (fewR nρ nR nS nT nD = false) := by unfold Hid fewR; simp [h0, h1]
    rw [HV.out]
    clear h0
    clear h1
    go_enter Tryz.func49, Tryz.ntmps49
    go_upto_region 1 with fail
    generalize w.alloc (.cells (dvc bρ nρ cρ bR nR cR bS nS cS bT nT cT bD nD cD) 31) = W at *
    go_wp2_with fail
    go_ret
    exact ⟨rfl, HW0.out⟩
  have k1 : (nR : Int) ≤ 10 := by omega
  by_cases h2 : nS ≤ 10
  rotate_left
  · have k2 : ¬ (nS : Int) ≤ 10 := by omega
    have HV : Hid (fewR nρ nR nS nT nD = false) := by unfold Hid fewR; simp [h0, h1, h2]
    rw [HV.out]
    clear h0
    clear h1
    clear h2
    go_enter Tryz.func49, Tryz.ntmps49
    go_upto_region 1 with fail
    generalize w.alloc (.cells (dvc bρ nρ cρ bR nR cR bS nS cS bT nT cT bD nD cD) 31) = W at *
    go_wp2_with fail
    go_ret
    exact ⟨rfl, HW0.out⟩
  have k2 : (nS : Int) ≤ 10 := by omega
  by_cases h3 : nT ≤ 10
  rotate_left
  · have k3 : ¬ (nT : Int) ≤ 10 := by omega
    have HV : Hid (fewR nρ nR nS nT nD = false) := by unfold Hid fewR; simp [h0, h1, h2, h3]
    rw [HV.out]
    clear h0
    clear h1
    clear h2
    clear h3
    go_enter Tryz.func49, Tryz.ntmps49
    go_upto_region 1 with fail
    generalize w.alloc (.cells (dvc bρ nρ cρ bR nR cR bS nS cS bT nT cT bD nD cD) 31) = W at *
    go_wp2_with fail
    go_ret
    exact ⟨rfl, HW0.out⟩
  have k3 : (nT : Int) ≤ 10 := by omega
  by_cases h4 : nD ≤ 80
  rotate_left
  · have k4 : ¬ (nD : Int) ≤ 80 := by omega
    have HV : Hid (fewR nρ nR nS nT nD = false) := by unfold Hid fewR; simp [h0, h1, h2, h3, h4]
    rw [HV.out]
    clear h0
    clear h1
    clear h2
    clear h3
    clear h4
    go_enter Tryz.func49, Tryz.ntmps49
    go_upto_region 1 with fail
    generalize w.alloc (.cells (dvc bρ nρ cρ bR nR cR bS nS cS bT nT cT bD nD cD) 31) = W at *
    go_wp2_with fail
    go_ret
    exact ⟨rfl, HW0.out⟩
  have k4 : (nD : Int) ≤ 80 := by omega
  have HV : Hid (fewR nρ nR nS nT nD = true) := by unfold Hid fewR; simp [h0, h1, h2, h3, h4]
  rw [HV.out]
  clear h0
  clear h1
  clear h2
  clear h3
  clear h4
  go_enter Tryz.func49, Tryz.ntmps49
  go_upto_region 1 with fail
  generalize w.alloc (.cells (dvc bρ nρ cρ bR nR cR bS nS cS bT nT cT bD nD cD) 31) = W at *
  go_wp2_with fail
  go_ret
  exact ⟨rfl, HW0.out⟩
set_option maxRecDepth 100000 in
set_option maxHeartbeats 4000000 in
theorem few8_any (label : List Int) (y : Int) (bi : Option Addr) (l ci : Nat) (bo : Option Addr) (no co : Nat) (bρ : Option Addr) (nρ cρ : Nat) (bR : Option Addr) (nR cR : Nat) (bS : Option Addr) (nS cS : Nat) (bT : Option Addr) (nT cT : Nat) (bD : Option Addr) (nD cD : Nat) (w : World) : Calls Tryz.prog 14 #[jv label y bi l ci bo no co bρ nρ cρ bR nR cR bS nS cS bT nT cT bD nD cD] w (Ret w (.bool (fewJ label.length l no nρ nR nS nT nD))) := by
  have HFw : Hid (∀ wx, Calls Tryz.prog 49 #[dv bρ nρ cρ bR nR cR bS nS cS bT nT cT bD nD cD] wx (Ret wx (.bool (fewR nρ nR nS nT nD)))) := fun wx => few8d_any bρ nρ cρ bR nR cR bS nS cS bT nT cT bD nD cD wx
  have hsz : (strOfNums label).size = label.length := strOfNums_size label
  have HZ := lain1 w (jvc label y bi l ci bo no co bρ nρ cρ bR nR cR bS nS cS bT nT cT bD nD cD) 33
  have HW0 : Hid (Old w (w.alloc (.cells (jvc label y bi l ci bo no co bρ nρ cρ bR nR cR bS nS cS bT nT cT bD nD cD) 33))) := HZ.old
  have d0 := HZ.cell 0 0 (by simp) rfl
  have d2 := HZ.cell 0 2 (by simp) rfl
  have d3 := HZ.cell 0 3 (by simp) rfl
  have d4 := HZ.cell 0 4 (by simp) rfl
  have d5 := HZ.cell 0 5 (by simp) rfl
  have d6 := HZ.cell 0 6 (by simp) rfl
  have d7 := HZ.cell 0 7 (by simp) rfl
  have d8 := HZ.cell 0 8 (by simp) rfl
  clear HZ
  simp only [Nat.add_zero] at d0 d2 d3 d4 d5 d6 d7 d8
  by_cases h0 : label.length ≤ 100
  rotate_left
  · have k0 : ¬ (label.length : Int) ≤ 100 := by omega
    have HV : Hid (fewJ label.length l no nρ nR nS nT nD = false) := by unfold Hid fewJ; simp [h0]
    rw [HV.out]
    clear h0
    go_enter Tryz.func14, Tryz.ntmps14
    go_upto_region 1 with fail
    generalize w.alloc (.cells (jvc label y bi l ci bo no co bρ nρ cρ bR nR cR bS nS cS bT nT cT bD nD cD) 33) = W at *
    go_wp2_with fail
    go_ret
    exact ⟨rfl, HW0.out⟩
  have k0 : (label.length : Int) ≤ 100 := by omega
  by_cases h1 : l ≤ 10
  rotate_left
  · have k1 : ¬ (l : Int) ≤ 10 := by omega
    have HV : Hid (fewJ label.length l no nρ nR nS nT nD = false) := by unfold Hid fewJ; simp [h0, h1]
    rw [HV.out]
    clear h0
    clear h1
    go_enter Tryz.func14, Tryz.ntmps14
    go_upto_region 1 with fail
    generalize w.alloc (.cells (jvc label y bi l ci bo no co bρ nρ cρ bR nR cR bS nS cS bT nT cT bD nD cD) 33) = W at *
    go_wp2_with fail
    go_ret
    exact ⟨rfl, HW0.out⟩
  have k1 : (l : Int) ≤ 10 := by omega
  by_cases h2 : no ≤ 10
  rotate_left
  · have k2 : ¬ (no : Int) ≤ 10 := by omega
    have HV : Hid (fewJ label.length l no nρ nR nS nT nD = false) := by unfold Hid fewJ; simp [h0, h1, h2]
    rw [HV.out]
    clear h0
    clear h1
    clear h2
    go_enter Tryz.func14, Tryz.ntmps14
    go_upto_region 1 with fail
    generalize w.alloc (.cells (jvc label y bi l ci bo no co bρ nρ cρ bR nR cR bS nS cS bT nT cT bD nD cD) 33) = W at *
    go_wp2_with fail
    go_ret
    exact ⟨rfl, HW0.out⟩
  have k2 : (no : Int) ≤ 10 := by omega
  have HV : Hid (fewJ label.length l no nρ nR nS nT nD = fewR nρ nR nS nT nD) := by unfold Hid fewJ; simp [h0, h1, h2]
  rw [HV.out]
  clear h0
  clear h1
  clear h2
  generalize fewR nρ nR nS nT nD = fr at *
  go_enter Tryz.func14, Tryz.ntmps14
  go_upto_region 1 with fail
  generalize w.alloc (.cells (jvc label y bi l ci bo no co bρ nρ cρ bR nR cR bS nS cS bT nT cT bD nD cD) 33) = W at *
  go_wp2_with (go_at_call 49; refine (HFw.out _).mono ?_; rintro e w1 ⟨rfl, o1⟩)
  go_ret
  exact ⟨rfl, HW0.out.trans o1⟩

end Go.Proofs.YtlnmjbbpenhdbaaGreat

namespace Go.Proofs.YtlnmjbbpenhdbaaGreat
open Go Go.RowKit
set_option linter.unusedVariables false
set_option linter.unusedSimpArgs false
abbrev bx6a (F : Nat → Int) : Array Value := #[.int .u64 (F 0), .int .u64 (F 1), .int .u64 (F 2), .int .u64 (F 3), .int .u64 (F 4), .int .u64 (F 5)]
end Go.Proofs.YtlnmjbbpenhdbaaGreat

namespace Go.Proofs.YtlnmjbbpenhdbaaGreat
open Go Go.RowKit
set_option linter.unusedVariables false

/-- A list of its own of n elements of sz cells. -/
def RowsN (w : World) (base : Nat) (e : TypeId) (sz : Nat) (v : Value) (n : Nat) (V : Nat → Value) : Prop := w.ownsRow base e sz v n ((List.range (n * sz)).map V)
theorem rowsN_nil (w : World) (base : Nat) (e : TypeId) (sz : Nat) (V : Nat → Value) : RowsN w base e sz (.slice none 0 0) 0 V := by
  unfold RowsN
  rw [Nat.zero_mul]
  exact World.ownsRow_nil _ _ _ _
theorem RowsN.old {w w' : World} {base : Nat} {e : TypeId} {sz n : Nat} {v : Value} {V : Nat → Value} (h : RowsN w base e sz v n V) (ho : Old w w') : RowsN w' base e sz v n V := by
  refine ⟨h.1, ?_⟩
  rcases h.2 with hn | ⟨g, cap, cur, hv, hb, hg, rest⟩
  · exact Or.inl hn
  · exact Or.inr ⟨g, cap, cur, hv, hb, (ho.block g (Array.getElem?_eq_some_iff.1 hg).1).trans hg, rest⟩
theorem RowsN.app {w : World} {base : Nat} {e : TypeId} {sz n : Nat} {v : Value} {V : Nat → Value} {news : List Value} (h : w.ownsRow base e sz v (n + 1) ((List.range (n * sz)).map V ++ news)) (hn : news = (List.range sz).map fun q => V (n * sz + q)) : RowsN w base e sz v (n + 1) V := by
  unfold RowsN
  rw [Nat.add_mul, Nat.one_mul, List.range_add, List.map_append, List.map_map]
  rw [hn] at h
  exact h
theorem RowsN.cells {w : World} {base : Nat} {e : TypeId} {sz n : Nat} {v : Value} {V : Nat → Value} (h : RowsN w base e sz v n V) (hn : 0 < n) : ∃ g c cur, v = .slice (some ⟨g, 0, none⟩) n c ∧ n ≤ c ∧ c ≤ 9223372036854775807 ∧ base ≤ g ∧ w.heap[g]? = some (.cells cur e (0, 0)) ∧ ∀ q, q < n * sz → cur[q]? = some (V q) := by
  have h1 := h.1
  rcases h.2 with ⟨rfl, rfl⟩ | ⟨g, cap, cur, rfl, hb, hg, hc, hm, hs, ht⟩
  · omega
  · refine ⟨g, cap, cur, rfl, hc, by unfold maxLen at hm; omega, hb, hg, fun q hq => ?_⟩
    have h2 : (cur.toList.take (n * sz))[q]? = some (V q) := by
      rw [ht]
      simp [hq]
    rw [List.getElem?_take_of_lt hq] at h2
    simpa using h2
theorem RowsN.slice {w : World} {base : Nat} {e : TypeId} {sz n : Nat} {v : Value} {V : Nat → Value} (h : RowsN w base e sz v n V) : ∃ b c, v = .slice b n c := by
  rcases h.2 with ⟨rfl, rfl⟩ | ⟨g, cap, cur, rfl, _⟩
  · exact ⟨none, 0, rfl⟩
  · exact ⟨_, cap, rfl⟩
/-- The cells of a block that has just been made. -/
theorem cells_new8 (w : World) (cs : List Value) (t : TypeId) : ∀ j u, cs[j]? = some u → (w.alloc (.cells cs.toArray t)).cell? ((⟨w.heap.size, 0, none⟩ : Addr).add j) = some u := fun j u h => by
  have hadd : (⟨w.heap.size, 0, none⟩ : Addr).add j = ⟨w.heap.size, j, none⟩ := by unfold Addr.add; split <;> simp_all
  rw [hadd, cell_of_row _ _ j _ _ (0, 0) (heap_alloc_last _ _)]
  simpa using h
/-- Boxes of a list of its own. -/
abbrev bxL (C : Nat → Nat → Int) : Nat → Value := fun q => .int .u64 (flatF C q)
theorem RowsN.boxF {w : World} {base n : Nat} {v : Value} {C : Nat → Nat → Int} (h : RowsN w base 74 6 v n (bxL C)) (hC : ∀ j k, j < n → k < 6 → U64 (C j k)) : ∃ b c, v = .slice b n c ∧ BoxF w b n C := by
  by_cases hn : 0 < n
  · obtain ⟨g, c, cur, rfl, _, _, _, hg, hq⟩ := h.cells hn
    refine ⟨_, c, rfl, Or.inr ⟨g, cur, rfl, hg, fun j hj k hk => ⟨?_, hC j k hj hk⟩⟩⟩
    rw [hq (j * 6 + k) (by omega)]
    unfold bxL
    rw [show j * 6 + k = 6 * j + k by omega, flat_at C j k hk]
  · obtain ⟨b, c, rfl⟩ := h.slice
    exact ⟨b, c, rfl, Or.inl (by omega)⟩
/-- Boxes of a list of its own, as they came to be one behind the other. -/
theorem box_news (C : Nat → Nat → Int) (n : Nat) : [Value.int .u64 (C n 0), .int .u64 (C n 1), .int .u64 (C n 2), .int .u64 (C n 3), .int .u64 (C n 4), .int .u64 (C n 5)] = (List.range 6).map fun q => bxL C (n * 6 + q) := by
  have h : ∀ k, k < 6 → flatF C (n * 6 + k) = C n k := fun k hk => by rw [show n * 6 + k = 6 * n + k by omega, flat_at C n k hk]
  show _ = [bxL C (n * 6 + 0), bxL C (n * 6 + 1), bxL C (n * 6 + 2), bxL C (n * 6 + 3), bxL C (n * 6 + 4), bxL C (n * 6 + 5)]
  unfold bxL
  rw [h 0 (by omega), h 1 (by omega), h 2 (by omega), h 3 (by omega), h 4 (by omega), h 5 (by omega)]

end Go.Proofs.YtlnmjbbpenhdbaaGreat

namespace Go.Proofs.YtlnmjbbpenhdbaaGreat
open Go.RowKit
set_option linter.unusedSimpArgs false
set_option linter.unusedVariables false

set_option maxRecDepth 100000 in
set_option maxHeartbeats 8000000 in
theorem rbatch8_any (P Q G H : Int) (a : Option Addr) (n cap : Nat) (b : Option Addr) (m c : Nat) (C : Nat → Nat → Int) (w : World) (h4 : Four P Q G H) (mm : m ≤ 9223372036854775807) (h : BoxsIn w b m C) :
    Calls Tryz.prog 54 #[gv P Q G H a n cap, .slice b m c] w (Ret w (.bool (batB P Q m C))) := by
  have HX : Hid (BoxsIn w b m C) := h
  have HI : Hid (∀ x r wx, U64 x → inI P Q x = r → Calls Tryz.prog 55 #[gv P Q G H a n cap, .int .u64 x] wx (Ret wx (.bool r))) := fun x r wx hx hr => by
    have := rin_any P Q G H x a n cap wx h4.q0 h4.q1 hx.2
    rw [hr] at this
    exact this
  have HZ := lain1 w (gc P Q G H a n cap) 25
  have HG0 := fun w' ho => (HZ.then (W' := w') ho).row 0 (by simp)
  have HW0 : Hid (Old w (w.alloc (.cells (gc P Q G H a n cap) 25))) := HZ.old
  clear HZ h h4
  by_cases h1 : 1 ≤ m
  rotate_left
  · have HV : Hid (batB P Q m C = false) := no_of fun hc => h1 (batB_iff.1 hc).1.1
    have h0 : m = 0 := by omega
    subst h0
    go_enter Tryz.func54, Tryz.ntmps54
    go_upto_region 1 with fail
    generalize w.alloc (.cells (gc P Q G H a n cap) 25) = W at *
    go_wp2_with fail
    go_ret
    exact ⟨ret_bool HV.out.symm, HW0.out⟩
  by_cases h8 : m ≤ 8
  rotate_left
  · have HV : Hid (batB P Q m C = false) := no_of fun hc => h8 (batB_iff.1 hc).1.2
    have k1 : ¬ (m : Int) < 1 := by omega
    have k2 : (8 : Int) < (m : Int) := by omega
    clear h1 h8
    go_enter Tryz.func54, Tryz.ntmps54
    go_upto_region 1 with fail
    generalize w.alloc (.cells (gc P Q G H a n cap) 25) = W at *
    go_wp2_with fail
    go_ret
    exact ⟨ret_bool HV.out.symm, HW0.out⟩
  have k1 : ¬ (m : Int) < 1 := by omega
  have k2 : ¬ (8 : Int) < (m : Int) := by omega
  have H18 : Hid (1 ≤ m ∧ m ≤ 8) := ⟨h1, h8⟩
  go_enter Tryz.func54, Tryz.ntmps54
  go_upto_region 1 with fail
  generalize w.alloc (.cells (gc P Q G H a n cap) 25) = W at *
  obtain ⟨gb, hgb⟩ : ∃ gb, gb = w.heap.size := ⟨_, rfl⟩
  have HG : Hid (∀ wx, Old W wx → wx.heap[gb]? = some (.cells (gc P Q G H a n cap) 25 (0, 0))) := by rw [hgb]; exact HG0
  rw [← hgb]
  clear hgb HG0
  go_wp2_with fail
  go_loopw [5] (fun iv wx => ∃ i : Nat, iv = .int .i64 (i : Int) ∧ i ≤ m ∧ Hid (Old W wx) ∧ Hid (∀ j, j < i → ∀ k, k < 6 → inI P Q (C j k) = true)) (fun iv _ => m - (intOf iv).toNat)
  case atStart => exact ⟨0, rfl, Nat.zero_le _, Old.refl _, fun j hj => by omega⟩
  case round =>
    obtain ⟨i, rfl, hi, HO, HJ⟩ := hrel
    by_cases hlt : i < m
    · go_upto_region 7 with fail
      go_loopw [6] (fun kv wx => ∃ k : Nat, kv = .int .i64 (k : Int) ∧ k ≤ 3 ∧ Hid (Old W wx) ∧ Hid (∀ q, q < 2 * k → inI P Q (C i q) = true)) (fun kv _ => 3 - (intOf kv).toNat)
      case atStart => exact ⟨0, rfl, Nat.zero_le _, HO, fun q hq => by omega⟩
      case round =>
        obtain ⟨k, rfl, hk, HO2, HK⟩ := hrel
        by_cases hkl : k < 3
        · have k3 : (k : Int) < 3 := by omega
          rcases HX.out with h0 | ⟨bx, ox, hqx, _, hrx⟩
          · omega
          have HU : Hid (∀ wx, Old wr wx → wx.cell? ⟨bx, ox + i * 6 + k * 2, none⟩ = some (.int .u64 (C i (2 * k)))) := fun wx ho => by
            have := (((HW0.out.trans HO2.out).trans ho)).cellOf (hrx i hlt (2 * k) (by omega)).1
            rwa [show ox + i * 6 + 2 * k = ox + i * 6 + k * 2 by omega] at this
          have HV : Hid (∀ wx, Old wr wx → wx.cell? ⟨bx, ox + i * 6 + k * 2 + 1, none⟩ = some (.int .u64 (C i (2 * k + 1)))) := fun wx ho => by
            have := (((HW0.out.trans HO2.out).trans ho)).cellOf (hrx i hlt (2 * k + 1) (by omega)).1
            rwa [show ox + i * 6 + (2 * k + 1) = ox + i * 6 + k * 2 + 1 by omega] at this
          have HUu : Hid (U64 (C i (2 * k)) ∧ U64 (C i (2 * k + 1))) := ⟨(hrx i hlt (2 * k) (by omega)).2, (hrx i hlt (2 * k + 1) (by omega)).2⟩
          have HGr : Hid (∀ wx, Old wr wx → wx.heap[gb]? = some (.cells (gc P Q G H a n cap) 25 (0, 0))) := fun wx ho => HG.out wx (HO2.out.trans ho)
          clear hrx
          subst hqx
          cases hu : inI P Q (C i (2 * k)) with
          | false =>
            have HIu : Hid (inI P Q (C i (2 * k)) = false) := hu
            have HN : Hid (batB P Q m C = false) := no_of fun hc => by have := (batB_iff.1 hc).2 i hlt (2 * k) (by omega); rw [hu] at this; cases this
            clear hu
            generalize C i (2 * k) = xu at *
            generalize C i (2 * k + 1) = xv at *
            go_upto_region 9 with fail
            refine wp_region_tab 22 [.k (gv P Q G H a n cap), .k (.slice (some ⟨bx, ox, none⟩) m c), .k (.int .i64 (i : Int)), .k (.int .i64 (k : Int)), .k (.pointer (some ⟨bx, ox + i * 6, none⟩)), .k (.pointer (some ⟨bx, ox + i * 6 + k * 2, none⟩)), .k (.pointer (some ⟨bx, ox + i * 6 + k * 2, none⟩)), .k (.int .u64 xu), .k (.bool false), .k (.bool true), .k (.bool true), .k undef, .k undef, .k undef, .k undef, .k undef, .k undef, .k undef, .k undef, .k undef, .k undef, .k (.bool true)] (Old wr) (by kernel_rfl) (by kernel_rfl) rfl ((Old.refl _).drew) ?st ?_
            case st =>
              refine .c (sts Tryz.underlying25 HGr.out) <|
                .c stp <|
                .c stp <|
                .c stp <|
                .c (stj (n := m) (c := c) 6 hlt Tryz.underlying26) <|
                .c (saj 2 hkl Tryz.underlying74) <|
                .c stp <|
                .c (stl Tryz.underlying22 HU.out) <|
                .c (stK old_R Tryz.func55 (fun wy _ => HI.out xu false wy HUu.out.1 HIu.out)) <|
                .c stp <|
                .c stp <|
                .c stn <|
                .c stn <|
                .c stn <|
                .c stn <|
                .c stn <|
                .c stn <|
                .c stn <|
                .c stn <|
                .c stn <|
                .c stn <|
                .c stp .n
            intro t wz hR hk2
            simp only [fill, Ent.val, List.set_cons_zero, List.set_cons_succ, List.drop_succ_cons, List.drop_zero, List.drop_nil]
            have HO3 : Hid (Old W wz) := HO2.out.trans hR
            clear hR hk2
            go_wp2_with fail
            go_ret
            exact ⟨ret_bool HN.out.symm, HW0.out.trans HO3.out⟩
          | true =>
            have HIu : Hid (inI P Q (C i (2 * k)) = true) := hu
            clear hu
            cases hv : inI P Q (C i (2 * k + 1)) with
            | false =>
              have HIv : Hid (inI P Q (C i (2 * k + 1)) = false) := hv
              have HN : Hid (batB P Q m C = false) := no_of fun hc => by have := (batB_iff.1 hc).2 i hlt (2 * k + 1) (by omega); rw [hv] at this; cases this
              clear hv
              generalize C i (2 * k) = xu at *
              generalize C i (2 * k + 1) = xv at *
              go_upto_region 9 with fail
              refine wp_region_tab 22 [.k (gv P Q G H a n cap), .k (.slice (some ⟨bx, ox, none⟩) m c), .k (.int .i64 (i : Int)), .k (.int .i64 (k : Int)), .k (.pointer (some ⟨bx, ox + i * 6, none⟩)), .k (.pointer (some ⟨bx, ox + i * 6 + k * 2, none⟩)), .k (.pointer (some ⟨bx, ox + i * 6 + k * 2, none⟩)), .k (.int .u64 xu), .k (.bool true), .k (.bool false), .k (.bool false), .k (gv P Q G H a n cap), .k (.slice (some ⟨bx, ox, none⟩) m c), .k (.int .i64 (i : Int)), .k (.int .i64 (k : Int)), .k (.pointer (some ⟨bx, ox + i * 6, none⟩)), .k (.pointer (some ⟨bx, ox + i * 6 + k * 2, none⟩)), .k (.pointer (some ⟨bx, ox + i * 6 + k * 2 + 1, none⟩)), .k (.int .u64 xv), .k (.bool false), .k (.bool true), .k (.bool true)] (Old wr) (by kernel_rfl) (by kernel_rfl) rfl ((Old.refl _).drew) ?st ?_
              case st =>
                refine .c (sts Tryz.underlying25 HGr.out) <|
                  .c stp <|
                  .c stp <|
                  .c stp <|
                  .c (stj (n := m) (c := c) 6 hlt Tryz.underlying26) <|
                  .c (saj 2 hkl Tryz.underlying74) <|
                  .c stp <|
                  .c (stl Tryz.underlying22 HU.out) <|
                  .c (stK old_R Tryz.func55 (fun wy _ => HI.out xu true wy HUu.out.1 HIu.out)) <|
                  .c stp <|
                  .c stp <|
                  .c (sts Tryz.underlying25 HGr.out) <|
                  .c stp <|
                  .c stp <|
                  .c stp <|
                  .c (stj (n := m) (c := c) 6 hlt Tryz.underlying26) <|
                  .c (saj 2 hkl Tryz.underlying74) <|
                  .c stp <|
                  .c (stl Tryz.underlying22 HV.out) <|
                  .c (stK old_R Tryz.func55 (fun wy _ => HI.out xv false wy HUu.out.2 HIv.out)) <|
                  .c stp <|
                  .c stp .n
              intro t wz hR hk2
              simp only [fill, Ent.val, List.set_cons_zero, List.set_cons_succ, List.drop_succ_cons, List.drop_zero, List.drop_nil]
              have HO3 : Hid (Old W wz) := HO2.out.trans hR
              clear hR hk2
              go_wp2_with fail
              go_ret
              exact ⟨ret_bool HN.out.symm, HW0.out.trans HO3.out⟩
            | true =>
              have HIv : Hid (inI P Q (C i (2 * k + 1)) = true) := hv
              have HK2 : Hid (∀ q, q < 2 * (k + 1) → inI P Q (C i q) = true) := fun q hq => by
                by_cases q1 : q < 2 * k
                · exact HK.out q q1
                · by_cases q2 : q = 2 * k
                  · rw [q2]; exact HIu.out
                  · rw [show q = 2 * k + 1 by omega]; exact hv
              clear hv HK
              generalize C i (2 * k) = xu at *
              generalize C i (2 * k + 1) = xv at *
              go_upto_region 9 with fail
              refine wp_region_tab 22 [.k (gv P Q G H a n cap), .k (.slice (some ⟨bx, ox, none⟩) m c), .k (.int .i64 (i : Int)), .k (.int .i64 (k : Int)), .k (.pointer (some ⟨bx, ox + i * 6, none⟩)), .k (.pointer (some ⟨bx, ox + i * 6 + k * 2, none⟩)), .k (.pointer (some ⟨bx, ox + i * 6 + k * 2, none⟩)), .k (.int .u64 xu), .k (.bool true), .k (.bool false), .k (.bool false), .k (gv P Q G H a n cap), .k (.slice (some ⟨bx, ox, none⟩) m c), .k (.int .i64 (i : Int)), .k (.int .i64 (k : Int)), .k (.pointer (some ⟨bx, ox + i * 6, none⟩)), .k (.pointer (some ⟨bx, ox + i * 6 + k * 2, none⟩)), .k (.pointer (some ⟨bx, ox + i * 6 + k * 2 + 1, none⟩)), .k (.int .u64 xv), .k (.bool true), .k (.bool false), .k (.bool false)] (Old wr) (by kernel_rfl) (by kernel_rfl) rfl ((Old.refl _).drew) ?st ?_
              case st =>
                refine .c (sts Tryz.underlying25 HGr.out) <|
                  .c stp <|
                  .c stp <|
                  .c stp <|
                  .c (stj (n := m) (c := c) 6 hlt Tryz.underlying26) <|
                  .c (saj 2 hkl Tryz.underlying74) <|
                  .c stp <|
                  .c (stl Tryz.underlying22 HU.out) <|
                  .c (stK old_R Tryz.func55 (fun wy _ => HI.out xu true wy HUu.out.1 HIu.out)) <|
                  .c stp <|
                  .c stp <|
                  .c (sts Tryz.underlying25 HGr.out) <|
                  .c stp <|
                  .c stp <|
                  .c stp <|
                  .c (stj (n := m) (c := c) 6 hlt Tryz.underlying26) <|
                  .c (saj 2 hkl Tryz.underlying74) <|
                  .c stp <|
                  .c (stl Tryz.underlying22 HV.out) <|
                  .c (stK old_R Tryz.func55 (fun wy _ => HI.out xv true wy HUu.out.2 HIv.out)) <|
                  .c stp <|
                  .c stp .n
              intro t wz hR hk2
              simp only [fill, Ent.val, List.set_cons_zero, List.set_cons_succ, List.drop_succ_cons, List.drop_zero, List.drop_nil]
              have HO3 : Hid (Old W wz) := HO2.out.trans hR
              clear hR hk2
              go_wp2_with fail
              go_roundw
              case rel => exact ⟨k + 1, idx_next k, by omega, HO3, HK2⟩
              case measure => simp [intOf]; omega
        · have hk3 : k = 3 := by omega
          subst hk3
          go_wp2_with fail
          go_roundw
          case rel => exact ⟨i + 1, idx_next i, by omega, HO2, upto_succ HJ.out (fun q hq => HK.out q (by omega))⟩
          case measure => simp [intOf]; omega
    · have he : m = i := by omega
      have HV : Hid (batB P Q m C = true) := batB_iff.2 ⟨H18.out, by rw [he]; exact HJ.out⟩
      subst he
      go_wp2_with fail
      go_ret
      exact ⟨ret_bool HV.out.symm, HW0.out.trans HO.out⟩

/-- The document's Order: up to eight. -/
def ordR (n : Nat) (O : Nat → Int) : Bool := decide (n ≤ 8) && ordB n O
theorem ordR_iff {n : Nat} {O : Nat → Int} : ordR n O = true ↔ (1 ≤ n ∧ n ≤ 8) ∧ ∀ k, k < n → ordK8 O (k : Nat) n = 1 := by
  unfold ordR
  rw [Bool.and_eq_true_iff, decide_eq_true_eq, ordB_iff]
  exact ⟨fun ⟨h8, h⟩ => ⟨⟨h.1, h8⟩, h.once⟩, fun ⟨h1, h⟩ => ⟨h1.2, ordP_of_once h1.1 h⟩⟩
theorem ordK8_le2 (O : Nat → Int) (k : Int) : ∀ n, ordK8 O k n ≤ n
  | 0 => Nat.le_refl 0
  | n + 1 => by
    show ordK8 O k n + (if O n = k then 1 else 0) ≤ n + 1
    have := ordK8_le2 O k n
    split <;> omega
set_option maxRecDepth 100000 in
set_option maxHeartbeats 8000000 in
theorem rorder8_any (b : Option Addr) (n c : Nat) (O : Nat → Int) (w : World) (mm : n ≤ 9223372036854775807) (h : IntsIn w b n O) :
    Calls Tryz.prog 56 #[.slice b n c] w (Ret w (.bool (ordR n O))) := by
  have HX : Hid (IntsIn w b n O) := h
  clear h
  by_cases h1 : 1 ≤ n
  rotate_left
  · have HV : Hid (ordR n O = false) := no_of fun hc => h1 (ordR_iff.1 hc).1.1
    have h0 : n = 0 := by omega
    subst h0
    go_enter Tryz.func56, Tryz.ntmps56
    go_wp2_with fail
    go_ret
    exact ⟨ret_bool HV.out.symm, Old.refl _⟩
  by_cases h8 : n ≤ 8
  rotate_left
  · have HV : Hid (ordR n O = false) := no_of fun hc => h8 (ordR_iff.1 hc).1.2
    have k1 : ¬ (n : Int) < 1 := by omega
    have k2 : (8 : Int) < (n : Int) := by omega
    clear h1 h8
    go_enter Tryz.func56, Tryz.ntmps56
    go_wp2_with fail
    go_ret
    exact ⟨ret_bool HV.out.symm, Old.refl _⟩
  have k1 : ¬ (n : Int) < 1 := by omega
  have k2 : ¬ (8 : Int) < (n : Int) := by omega
  have H18 : Hid (1 ≤ n ∧ n ≤ 8) := ⟨h1, h8⟩
  go_enter Tryz.func56, Tryz.ntmps56
  go_wp2_with fail
  go_loopw [3] (fun kv wx => ∃ k : Nat, kv = .int .i64 (k : Int) ∧ k ≤ n ∧ Hid (Old w wx) ∧ Hid (∀ j, j < k → ordK8 O (j : Nat) n = 1)) (fun kv _ => n - (intOf kv).toNat)
  case atStart => exact ⟨0, rfl, Nat.zero_le _, Old.refl _, fun j hj => by omega⟩
  case round =>
    obtain ⟨k, rfl, hk, HO, HJ⟩ := hrel
    by_cases hlt : k < n
    · go_upto_region 8 with fail
      go_loopw [4, 5] (fun nv iv wx => ∃ i : Nat, iv = .int .i64 (i : Int) ∧ i ≤ n ∧ nv = .int .i64 ((ordK8 O (k : Int) i : Nat) : Int) ∧ Hid (Old w wx)) (fun _ iv _ => n - (intOf iv).toNat)
      case atStart => exact ⟨0, rfl, Nat.zero_le _, rfl, HO⟩
      case round =>
        obtain ⟨i, rfl, hi, rfl, HO2⟩ := hrel
        by_cases hil : i < n
        · rcases HX.out with h0 | ⟨bx, ox, hqx, _, hrx⟩
          · omega
          have cx := (HO2.out).cellOf (hrx i hil).1
          clear hrx
          subst hqx
          have hle := ordK8_le2 O (k : Int) i
          by_cases he : O i = (k : Int)
          · have HK : Hid (ordK8 O (k : Int) (i + 1) = ordK8 O (k : Int) i + 1) := by show ordK8 O (k : Int) i + (if O i = (k : Int) then 1 else 0) = _; rw [if_pos he]
            rw [he] at cx
            clear he
            generalize ordK8 O (k : Int) i = cn at *
            go_wp2_with fail
            go_roundw
            case rel => exact ⟨i + 1, idx_next i, by omega, by rw [HK.out]; exact idx_next cn, HO2⟩
            case measure => simp [intOf]; omega
          · have HK : Hid (ordK8 O (k : Int) (i + 1) = ordK8 O (k : Int) i) := by show ordK8 O (k : Int) i + (if O i = (k : Int) then 1 else 0) = _; rw [if_neg he]; rfl
            generalize ordK8 O (k : Int) i = cn at *
            go_wp2_with fail
            go_roundw
            case rel => exact ⟨i + 1, idx_next i, by omega, by rw [HK.out], HO2⟩
            case measure => simp [intOf]; omega
        · have hie : n = i := by omega
          subst hie
          by_cases he : ordK8 O (k : Int) n = 1
          · have HE : Hid (ordK8 O (k : Nat) n = 1) := he
            rw [he]
            clear he
            go_wp2_with fail
            go_roundw
            case rel => exact ⟨k + 1, idx_next k, by omega, HO2, upto_succ HJ.out HE.out⟩
            case measure => simp [intOf]; omega
          · have HN : Hid (ordR n O = false) := no_of fun hc => he ((ordR_iff.1 hc).2 k hlt)
            have k3 : ¬ ((ordK8 O (k : Int) n : Nat) : Int) = 1 := by omega
            clear he
            generalize ordK8 O (k : Int) n = cn at *
            go_wp2_with fail
            go_ret
            exact ⟨ret_bool HN.out.symm, HO2.out⟩
    · have he : n = k := by omega
      have HV : Hid (ordR n O = true) := ordR_iff.2 ⟨H18.out, by rw [he]; rw [he] at HJ; exact HJ.out⟩
      subst he
      go_wp2_with fail
      go_ret
      exact ⟨ret_bool HV.out.symm, HO.out⟩

end Go.Proofs.YtlnmjbbpenhdbaaGreat
