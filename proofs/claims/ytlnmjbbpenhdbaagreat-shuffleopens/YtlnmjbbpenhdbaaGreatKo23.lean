/-
  The statements' box and awake (layer 8).
  Few of layer 8.
  ShuffleOpens' walk (layer 8).
  A list of rows that came in, opened: what its reading says of memory.
-/
import Derived.Test.YtlnmjbbpenhdbaaGreatKo22
import Derived.Test.YtlnmjbbpenhdbaaGreatKo05
import Derived.Test.YtlnmjbbpenhdbaaGreatKo11
import Derived.Test.YtlnmjbbpenhdbaaGreatKo08
import Derived.Test.YtlnmjbbpenhdbaaGreatKo01
import Derived.Deep.Slices
import Derived.Deep.Strs
import Derived.OpenShut
namespace Go.Proofs.YtlnmjbbpenhdbaaGreat
open Go.RowKit
set_option linter.unusedSimpArgs false
set_option linter.unusedVariables false

abbrev boxV : Value := .agg #[.int .u64 1, .int .u64 4, .int .u64 1, .int .u64 9, .int .u64 4, .int .u64 16]
abbrev boxA : Array Value := #[.int .u64 1, .int .u64 4, .int .u64 1, .int .u64 9, .int .u64 4, .int .u64 16]
theorem info_box : (Tryz.prog.info? 74).map (·.size) = some 6 := by kernel_rfl
theorem box8_any (w : World) : Calls Tryz.prog 47 #[] w (Ret w boxV) := by
  go_enter Tryz.func47, Tryz.ntmps47
  go_wp2_with fail
  exact bodyPost_ret (results_cell_row rfl _ _ _ _ _ (0, 0) _ rfl (heap_alloc_last _ _) Tryz.underlying74 rfl info_box) rfl ⟨rfl, (Old.refl _).alloc _⟩
/-- A row of a kind. -/
def rowK {S : TypeId} (n : Nat) (c : Array Value) (T : TypeId) (hT : S ≠ T) : Ent2 (OldT S) := .u (fun v w => ∃ b, v = .slice (some ⟨b, 0, none⟩) n n ∧ w.heap[b]? = some (.cells c T (0, 0))) fun _ _ _ ⟨b, e, h⟩ ho => ⟨b, e, ho.row hT h⟩
/-- What Prove answered, and its parts. -/
def shP (base n : Nat) (M : Nat → Nat → Int) (A B Pp : Nat → Int) (nt : Nat) (K : Nat → Int) (nz : Nat) (Z : Nat → Int) : Ent2 (OldT 57) := .u (fun v w => ∃ bm cm ba ca bb cb bp cp bk ck bz cz, v = .tuple #[.slice bm n cm, .agg #[.slice ba n ca, .slice bb n cb, .slice bp n cp, .slice bk nt ck, .slice bz nz cz], .bool true] ∧ BoxF w bm n M ∧ Nums w base (.slice ba n ca) n A ∧ Nums w base (.slice bb n cb) n B ∧ Nums w base (.slice bp n cp) n Pp ∧ Nums w base (.slice bk nt ck) nt K ∧ Nums w base (.slice bz nz cz) nz Z)
  fun _ _ _ ⟨bm, cm, ba, ca, bb, cb, bp, cp, bk, ck, bz, cz, e, h, h1, h2, h3, h4, h5⟩ ho => ⟨bm, cm, ba, ca, bb, cb, bp, cp, bk, ck, bz, cz, e, h.oldT (by decide) ho, h1.oldT (by decide) ho, h2.oldT (by decide) ho, h3.oldT (by decide) ho, h4.oldT (by decide) ho, h5.oldT (by decide) ho⟩
def shM (n : Nat) (M : Nat → Nat → Int) : Ent2 (OldT 57) := .u (fun v w => ∃ bm cm, v = .slice bm n cm ∧ BoxF w bm n M) fun _ _ _ ⟨bm, cm, e, h⟩ ho => ⟨bm, cm, e, h.oldT (by decide) ho⟩
def shA (base n : Nat) (A B Pp : Nat → Int) (nt : Nat) (K : Nat → Int) (nz : Nat) (Z : Nat → Int) : Ent2 (OldT 57) := .u (fun v w => ∃ ba ca bb cb bp cp bk ck bz cz, v = .agg #[.slice ba n ca, .slice bb n cb, .slice bp n cp, .slice bk nt ck, .slice bz nz cz] ∧ Nums w base (.slice ba n ca) n A ∧ Nums w base (.slice bb n cb) n B ∧ Nums w base (.slice bp n cp) n Pp ∧ Nums w base (.slice bk nt ck) nt K ∧ Nums w base (.slice bz nz cz) nz Z)
  fun _ _ _ ⟨ba, ca, bb, cb, bp, cp, bk, ck, bz, cz, e, h1, h2, h3, h4, h5⟩ ho => ⟨ba, ca, bb, cb, bp, cp, bk, ck, bz, cz, e, h1.oldT (by decide) ho, h2.oldT (by decide) ho, h3.oldT (by decide) ho, h4.oldT (by decide) ho, h5.oldT (by decide) ho⟩
theorem aw_u64 : (∀ k, k < 6 → U64 (bx8 k)) ∧ (∀ k, k < 3 → U64 (rh8 k)) := by unfold U64; decide
theorem boxs_one {w : World} {b : Nat} (h : w.heap[b]? = some (.cells boxA 74 (0, 0))) : BoxsIn w (some ⟨b, 0, none⟩) 1 awC := Or.inr ⟨b, 0, rfl, obj_lt h, fun j hj k hk => ⟨by
  have : j = 0 := by omega
  subst this
  rw [show 0 + 0 * 6 + k = k by omega, cell_of_row _ _ k _ _ (0, 0) h]
  match k, hk with
  | 0, _ => rfl
  | 1, _ => rfl
  | 2, _ => rfl
  | 3, _ => rfl
  | 4, _ => rfl
  | 5, _ => rfl, aw_u64.1 k hk⟩⟩
theorem ints_one {w : World} {b : Nat} (h : w.heap[b]? = some (.cells #[.int .i64 0] 3 (0, 0))) : IntsIn w (some ⟨b, 0, none⟩) 1 awO := Or.inr ⟨b, 0, rfl, obj_lt h, fun j hj => by
  have : j = 0 := by omega
  subst this
  exact ⟨(cell_of_row _ _ 0 _ _ (0, 0) h).trans rfl, by decide, by decide⟩⟩
theorem rho_one {w : World} {b : Nat} (h : w.heap[b]? = some (.cells #[.int .u64 5, .int .u64 6, .int .u64 7] 63 (0, 0))) : RhoIn w (some ⟨b, 0, none⟩) 1 awR := Or.inr ⟨b, 0, rfl, obj_lt h, fun j hj k hk => ⟨by
  have : j = 0 := by omega
  subst this
  rw [show 0 + 0 * 3 + k = k by omega, cell_of_row _ _ k _ _ (0, 0) h]
  match k, hk with
  | 0, _ => rfl
  | 1, _ => rfl
  | 2, _ => rfl, aw_u64.2 k hk⟩⟩
theorem num_one {w : World} {b : Nat} {x : Int} (hx : U64 x) (h : w.heap[b]? = some (.cells #[.int .u64 x] 22 (0, 0))) : FacsIn w (some ⟨b, 0, none⟩) 1 (fun _ => x) := Or.inr ⟨b, 0, rfl, obj_lt h, fun j hj => by
  have : j = 0 := by omega
  subst this
  exact ⟨(cell_of_row _ _ 0 _ _ (0, 0) h).trans rfl, hx⟩⟩
theorem num_ten {w : World} {b : Nat} (h : w.heap[b]? = some (.cells (madeCells #[Value.int .u64 0] 10) 22 (0, 0))) : FacsIn w (some ⟨b, 0, none⟩) 10 (fun _ => 0) := Or.inr ⟨b, 0, rfl, obj_lt h, fun j hj => by
  refine ⟨?_, (show U64 0 from ⟨by decide, by decide⟩)⟩
  rw [Nat.zero_add, cell_of_row _ _ j _ _ (0, 0) h]
  simp [madeCells, hj, Nat.mod_one]⟩
theorem aw_mx : Mix8 2027 1013 4 9 64 1 awC awO awR (fun _ => 1) (fun _ => 2) (fun _ => 3) := ⟨small_righ, aw_h, by decide +kernel, by decide, by decide, ordB_iff.1 (by decide +kernel), (batB_iff.1 (show batB 2027 1013 1 awC = true by decide +kernel)).2, fun _ _ => (show (0 : Int) ≤ 1 by decide), fun _ _ => (show (0 : Int) ≤ 2 by decide), fun _ _ => (show (0 : Int) ≤ 3 by decide), fun _ _ k hk => (aw_u64.2 k hk).1⟩
/-- A whole value out of cells. -/
theorem run_load_cells {P : Program} (w : World) (b off : Nat) (ty : TypeId) (cs : Array Value) (d : TypeDesc) (hc : ∀ j v, cs[j]? = some v → w.cell? ⟨b, off + j, none⟩ = some v) (hu : P.underlying ty = some d) (hd : aggD d = true) (hi : (P.info? ty).map (·.size) = some cs.size) :
    (loadVar ty ⟨b, off, none⟩).run P w = .ok (.agg cs) w := by
  have hl : (loadCells ⟨b, off, none⟩ cs.toList.length).run P w = .ok cs.toList.toArray w :=
    run_loadCells_list (P := P) w ⟨b, off, none⟩ cs.toList (fun j v hv => by
      have hadd : (⟨b, off, none⟩ : Addr).add j = ⟨b, off + j, none⟩ := by unfold Addr.add; split <;> simp_all
      rw [hadd]
      exact hc j v (by simpa using hv))
  obtain ⟨i, hq, hs⟩ := Option.map_eq_some_iff.1 hi
  have hagg : (isAgg ty).run P w = .ok true w := by
    unfold isAgg
    rw [Sem.run_bind, run_underlying hu w]
    cases d <;> simp_all [aggD]
  simp only [Array.length_toList, Array.toArray_toList] at hl
  simp [loadVar, Sem.run_bind, hagg, sizeOf, typeInfo, hq, hs, hl]
/-- A load of which it is known what it gives. -/
theorem stlv {P : Program} {ops : List Oper} {L0 : List Value} {E : List Ent} {R : World → Prop} {dst : Option Tmp} {ty : TypeId} {pos : String} {after : Array Edge} {guard : Option (Nat × Bool)} {T : TypeId} {x : Operand} {p : Addr} {v : Value} (hc : ∀ wx, R wx → (loadVar T p).run P wx = .ok v wx) (hg : guardT E ⟨dst, .load T x, ty, pos, after, guard⟩ = some true := by rfl) (hx : ∀ t, Act.eval ⟨(fill ops E t 0 L0).toArray, []⟩ x = .pointer (some p) := by intro _; kernel_rfl) : StepT P ops L0 E R ⟨dst, .load T x, ty, pos, after, guard⟩ (.k v) :=
  stw hg fun t wx hR => by simp only [execOp, hx t, Instr.loadAt, Instr.sureAddr, Sem.run_bind, Sem.run_pure, Result.andThen_ok, hc wx hR]
set_option maxRecDepth 100000 in
set_option maxHeartbeats 4000000 in
theorem awake8_any (w : World) : Calls Tryz.prog 12 #[] w (Ret w (.bool true)) := by
  have hmk : ∀ wx : World, (Instr.makeSlice 29 (.int .i64 10) (.int .i64 10)).run Tryz.prog wx = .ok (.slice (some ⟨wx.heap.size, 0, none⟩) 10 10) (wx.alloc (.cells (madeCells #[Value.int .u64 0] 10) 22)) := fun wx => make_run 10 (by omega) wx
  go_enter Tryz.func12, Tryz.ntmps12
  go_upto_region 2 with (go_at_call 46; refine (small4_any _).mono ?_; rintro e w1 ⟨a, FA, rfl, hrow, ho1⟩)
  have HZ := lain1 w1 (gc 2027 1013 4 9 a 5 5) 25
  have HW : Hid (Old w w1) := ho1
  have HG0 := fun w' ho => (HZ.then (W' := w') ho).row 0 (by simp)
  have HOw : Hid (Old w (w1.alloc (.cells (gc 2027 1013 4 9 a 5 5) 25))) := HW.out.trans HZ.old
  clear hrow ho1 HZ HW
  generalize w1.alloc (.cells (gc 2027 1013 4 9 a 5 5) 25) = W at *
  obtain ⟨gb, hgb⟩ : ∃ gb, gb = w1.heap.size := ⟨_, rfl⟩
  have HG : Hid (∀ wx, Old W wx → wx.heap[gb]? = some (.cells (gc 2027 1013 4 9 a 5 5) 25 (0, 0))) := by rw [hgb]; exact HG0
  rw [← hgb]
  clear hgb HG0
  obtain ⟨s, hs⟩ : ∃ s, s = W.heap.size := ⟨_, rfl⟩
  have HD : Hid (∀ wx, Old ((((((W.alloc (.cells #[.int .u64 5, .int .u64 6, .int .u64 7] 63)).alloc (.cells #[.int .u64 1] 22)).alloc (.cells #[.int .u64 2] 22)).alloc (.cells #[.int .u64 3] 22)).alloc (.cells (madeCells #[Value.int .u64 0] 10) 22)).alloc (.cells (dvc (some ⟨s, 0, none⟩) 1 1 (some ⟨s + 1, 0, none⟩) 1 1 (some ⟨s + 1 + 1, 0, none⟩) 1 1 (some ⟨s + 1 + 1 + 1, 0, none⟩) 1 1 (some ⟨s + 1 + 1 + 1 + 1, 0, none⟩) 10 10) 31)) wx → wx.heap[s]? = some (.cells #[.int .u64 5, .int .u64 6, .int .u64 7] 63 (0, 0)) ∧ wx.heap[s + 1]? = some (.cells #[.int .u64 1] 22 (0, 0)) ∧ wx.heap[s + 1 + 1]? = some (.cells #[.int .u64 2] 22 (0, 0)) ∧ wx.heap[s + 1 + 1 + 1]? = some (.cells #[.int .u64 3] 22 (0, 0)) ∧ wx.heap[s + 1 + 1 + 1 + 1]? = some (.cells (madeCells #[Value.int .u64 0] 10) 22 (0, 0)) ∧ wx.heap[s + 1 + 1 + 1 + 1 + 1]? = some (.cells (dvc (some ⟨s, 0, none⟩) 1 1 (some ⟨s + 1, 0, none⟩) 1 1 (some ⟨s + 1 + 1, 0, none⟩) 1 1 (some ⟨s + 1 + 1 + 1, 0, none⟩) 1 1 (some ⟨s + 1 + 1 + 1 + 1, 0, none⟩) 10 10) 31 (0, 0))) := fun wx ho => by
    subst hs
    have L := ((((((Lain.nil W).add (by simp) #[.int .u64 5, .int .u64 6, .int .u64 7] 63).add (by simp) #[.int .u64 1] 22).add (by simp) #[.int .u64 2] 22).add (by simp) #[.int .u64 3] 22).add (by simp) (madeCells #[Value.int .u64 0] 10) 22).add (by simp) (dvc (some ⟨W.heap.size, 0, none⟩) 1 1 (some ⟨W.heap.size + 1, 0, none⟩) 1 1 (some ⟨W.heap.size + 1 + 1, 0, none⟩) 1 1 (some ⟨W.heap.size + 1 + 1 + 1, 0, none⟩) 1 1 (some ⟨W.heap.size + 1 + 1 + 1 + 1, 0, none⟩) 10 10) 31
    have M := L.then ho
    exact ⟨M.row 0 (by simp), M.row 1 (by simp), M.row 2 (by simp), M.row 3 (by simp), M.row 4 (by simp), M.row 5 (by simp)⟩
  have HOd : Hid (Old W ((((((W.alloc (.cells #[.int .u64 5, .int .u64 6, .int .u64 7] 63)).alloc (.cells #[.int .u64 1] 22)).alloc (.cells #[.int .u64 2] 22)).alloc (.cells #[.int .u64 3] 22)).alloc (.cells (madeCells #[Value.int .u64 0] 10) 22)).alloc (.cells (dvc (some ⟨s, 0, none⟩) 1 1 (some ⟨s + 1, 0, none⟩) 1 1 (some ⟨s + 1 + 1, 0, none⟩) 1 1 (some ⟨s + 1 + 1 + 1, 0, none⟩) 1 1 (some ⟨s + 1 + 1 + 1 + 1, 0, none⟩) 10 10) 31))) := ((((((Old.refl W).alloc _).alloc _).alloc _).alloc _).alloc _).alloc _
  go_upto_region 3 with fail
  rw [← hs]
  clear hs hmk
  generalize (((((W.alloc (.cells #[.int .u64 5, .int .u64 6, .int .u64 7] 63)).alloc (.cells #[.int .u64 1] 22)).alloc (.cells #[.int .u64 2] 22)).alloc (.cells #[.int .u64 3] 22)).alloc (.cells (madeCells #[Value.int .u64 0] 10) 22)).alloc (.cells (dvc (some ⟨s, 0, none⟩) 1 1 (some ⟨s + 1, 0, none⟩) 1 1 (some ⟨s + 1 + 1, 0, none⟩) 1 1 (some ⟨s + 1 + 1 + 1, 0, none⟩) 1 1 (some ⟨s + 1 + 1 + 1 + 1, 0, none⟩) 10 10) 31) = V at *
  have HGv : Hid (∀ wx, Old V wx → wx.heap[gb]? = some (.cells (gc 2027 1013 4 9 a 5 5) 25 (0, 0))) := fun wx ho => HG.out wx (HOd.out.trans ho)
  have HDv : Hid (∀ wx, Old V wx → wx.heap[s + 1 + 1 + 1 + 1 + 1]? = some (.cells (dvc (some ⟨s, 0, none⟩) 1 1 (some ⟨s + 1, 0, none⟩) 1 1 (some ⟨s + 1 + 1, 0, none⟩) 1 1 (some ⟨s + 1 + 1 + 1, 0, none⟩) 1 1 (some ⟨s + 1 + 1 + 1 + 1, 0, none⟩) 10 10) 31 (0, 0))) := fun wx ho => (HD.out wx ho).2.2.2.2.2
  have HPv : Hid (∀ wx b b2, Old V wx → wx.heap[b]? = some (.cells boxA 74 (0, 0)) → wx.heap[b2]? = some (.cells #[.int .i64 0] 3 (0, 0)) → Calls Tryz.prog 31 #[gv 2027 1013 4 9 a 5 5, .string ⟨#[97]⟩, .int .u64 64, .slice (some ⟨b, 0, none⟩) 1 1, .slice (some ⟨b2, 0, none⟩) 1 1, dv (some ⟨s, 0, none⟩) 1 1 (some ⟨s + 1, 0, none⟩) 1 1 (some ⟨s + 1 + 1, 0, none⟩) 1 1 (some ⟨s + 1 + 1 + 1, 0, none⟩) 1 1 (some ⟨s + 1 + 1 + 1 + 1, 0, none⟩) 10 10] wx (GivS wx true 1 awM (aF 2027 1013 4 9 awO (fun _ => 1)) (mxB 2027 1013 4 9 [97] 64 1 awC awO awR (fun _ => 1) (fun _ => 2)) (mxP 2027 1013 4 9 [97] 64 1 awC awO awR (fun _ => 1) (fun _ => 2) (fun _ => 3)) 10 (mxK 2027 1013 4 9 [97] 64 1 awC awO awR (fun _ => 1) (fun _ => 2) (fun _ => 3) (fun _ => 0)) 10 (mxZ 2027 1013 4 9 [97] 64 1 awC awO awR (fun _ => 1) (fun _ => 2) (fun _ => 3) (fun _ => 0)))) := fun wx b b2 ho hb hi => by
    obtain ⟨d0, d1, d2, d3, d4, _⟩ := HD.out wx ho
    have h := sprove_any 2027 1013 4 9 a 5 5 [97] 64 (some ⟨b, 0, none⟩) 1 1 awC (some ⟨b2, 0, none⟩) 1 1 awO (some ⟨s, 0, none⟩) 1 1 awR (some ⟨s + 1, 0, none⟩) 1 1 (fun _ => 1) (some ⟨s + 1 + 1, 0, none⟩) 1 1 (fun _ => 2) (some ⟨s + 1 + 1 + 1, 0, none⟩) 1 1 (fun _ => 3) (some ⟨s + 1 + 1 + 1 + 1, 0, none⟩) 10 10 (fun _ => 0) wx four_sm small_righ aw_h ⟨by decide, by decide⟩ (by unfold Bts; decide) (by decide) (by decide) (by decide) (by decide) ⟨by decide, by decide⟩ (by decide) (boxs_one hb) (ints_one hi) (rho_one d0) (num_one ⟨by decide, by decide⟩ d1) (num_one ⟨by decide, by decide⟩ d2) (num_one ⟨by decide, by decide⟩ d3) (num_ten d4)
    rw [aw_mix, aw_drw, show strOfNums [97] = ⟨#[97]⟩ by decide +kernel] at h
    exact h
  have HBx : Hid (∀ wx, Calls Tryz.prog 47 #[] wx (Ret wx boxV)) := fun wx => box8_any wx
  refine wp_region_tab2 (Rl := OldT 57) 14 [.k (gv 2027 1013 4 9 a 5 5), .k (boxV), rowK 1 boxA 74 (by decide), rowK 1 #[.int .i64 0] 3 (by decide), .k (dv (some ⟨s, 0, none⟩) 1 1 (some ⟨s + 1, 0, none⟩) 1 1 (some ⟨s + 1 + 1, 0, none⟩) 1 1 (some ⟨s + 1 + 1 + 1, 0, none⟩) 1 1 (some ⟨s + 1 + 1 + 1 + 1, 0, none⟩) 10 10), shP V.heap.size 1 awM (aF 2027 1013 4 9 awO (fun _ => 1)) (mxB 2027 1013 4 9 [97] 64 1 awC awO awR (fun _ => 1) (fun _ => 2)) (mxP 2027 1013 4 9 [97] 64 1 awC awO awR (fun _ => 1) (fun _ => 2) (fun _ => 3)) 10 (mxK 2027 1013 4 9 [97] 64 1 awC awO awR (fun _ => 1) (fun _ => 2) (fun _ => 3) (fun _ => 0)) 10 (mxZ 2027 1013 4 9 [97] 64 1 awC awO awR (fun _ => 1) (fun _ => 2) (fun _ => 3) (fun _ => 0)), shP V.heap.size 1 awM (aF 2027 1013 4 9 awO (fun _ => 1)) (mxB 2027 1013 4 9 [97] 64 1 awC awO awR (fun _ => 1) (fun _ => 2)) (mxP 2027 1013 4 9 [97] 64 1 awC awO awR (fun _ => 1) (fun _ => 2) (fun _ => 3)) 10 (mxK 2027 1013 4 9 [97] 64 1 awC awO awR (fun _ => 1) (fun _ => 2) (fun _ => 3) (fun _ => 0)) 10 (mxZ 2027 1013 4 9 [97] 64 1 awC awO awR (fun _ => 1) (fun _ => 2) (fun _ => 3) (fun _ => 0)), shM 1 awM, shA V.heap.size 1 (aF 2027 1013 4 9 awO (fun _ => 1)) (mxB 2027 1013 4 9 [97] 64 1 awC awO awR (fun _ => 1) (fun _ => 2)) (mxP 2027 1013 4 9 [97] 64 1 awC awO awR (fun _ => 1) (fun _ => 2) (fun _ => 3)) 10 (mxK 2027 1013 4 9 [97] 64 1 awC awO awR (fun _ => 1) (fun _ => 2) (fun _ => 3) (fun _ => 0)) 10 (mxZ 2027 1013 4 9 [97] 64 1 awC awO awR (fun _ => 1) (fun _ => 2) (fun _ => 3) (fun _ => 0)), .k (.bool true), varE 57 5 V.heap.size, shM 1 awM, putE 57 10 8 V.heap.size, .k (.bool true)] (Old V) (by kernel_rfl) (by kernel_rfl) rfl (by kernel_rfl) ((Old.refl _).drew) ?st ?_
  case st =>
    refine .c (stsy Tryz.underlying25 HGv.out) <|
      .c (stKy old_R Tryz.func47 (fun wx _ => HBx.out wx)) <|
      .c (stmy (ob := fun _ => .cells boxA 74) (v := fun s => .slice (some ⟨s, 0, none⟩) 1 1) old_R fun t wx hR hd => ⟨_, rfl, heap_alloc_last _ _⟩) <|
      .c (stmy (ob := fun _ => .cells #[.int .i64 0] 3) (v := fun s => .slice (some ⟨s, 0, none⟩) 1 1) old_R fun t wx hR hd => ⟨_, rfl, heap_alloc_last _ _⟩) <|
      .c (stsy Tryz.underlying31 HDv.out) <|
      .c (stCy (args := fun t => #[gv 2027 1013 4 9 a 5 5, .string ⟨#[97]⟩, .int .u64 64, t 2, t 3, dv (some ⟨s, 0, none⟩) 1 1 (some ⟨s + 1, 0, none⟩) 1 1 (some ⟨s + 1 + 1, 0, none⟩) 1 1 (some ⟨s + 1 + 1 + 1, 0, none⟩) 1 1 (some ⟨s + 1 + 1 + 1 + 1, 0, none⟩) 10 10]) old_R Tryz.func31 fun t wx hR hd => ?_) <|
      .c (stxy fun t wx hR hd => ⟨t 5, by kernel_rfl, hd 5 (by kernel_rfl)⟩) <|
      .c (stxy fun t wx hR hd => ?_) <|
      .c (stxy fun t wx hR hd => ?_) <|
      .c (stzy fun t wx hR hd => ?_) <|
      .c (stmy (ob := fun _ => .cells #[.slice none 0 0, .slice none 0 0, .slice none 0 0, .slice none 0 0, .slice none 0 0] 57) (v := fun s => .pointer (some ⟨s, 0, none⟩)) old_R fun t wx hR hd => ⟨_, rfl, hR.size, _, heap_alloc_last _ _, rfl⟩) <|
      .c (stxy fun t wx hR hd => ⟨t 7, by kernel_rfl, hd 7 (by kernel_rfl)⟩) <|
      .c (stPy (n := 5) (fun _ _ => True) (fun w g cells h hg => h.setRow hg cells) fun t wx hR hd => ?_) <|
      .c stpy .n
    · obtain ⟨b, e2, hb⟩ : ∃ b, t 2 = .slice (some ⟨b, 0, none⟩) 1 1 ∧ wx.heap[b]? = some (.cells boxA 74 (0, 0)) := hd 2 (by kernel_rfl)
      obtain ⟨b2, e3, hi⟩ : ∃ b, t 3 = .slice (some ⟨b, 0, none⟩) 1 1 ∧ wx.heap[b]? = some (.cells #[.int .i64 0] 3 (0, 0)) := hd 3 (by kernel_rfl)
      rw [e2, e3]
      refine (HPv.out wx b b2 hR hb hi).mono ?_
      rintro e w' ⟨ho, bm, cm, va, vb, vp, vk, vz, rfl, h0, h1, h2, h3, h4, h5⟩
      simp only [if_true] at h0 h1 h2 h3 h4 h5
      obtain ⟨ba, ca, rfl⟩ := own_slice8 h1
      obtain ⟨bb, cb, rfl⟩ := own_slice8 h2
      obtain ⟨bp, cp, rfl⟩ := own_slice8 h3
      obtain ⟨bk, ck, rfl⟩ := own_slice8 h4
      obtain ⟨bz, cz, rfl⟩ := own_slice8 h5
      exact ⟨_, rfl, ho, bm, cm, ba, ca, bb, cb, bp, cp, bk, ck, bz, cz, rfl, h0, h1.mono hR.size, h2.mono hR.size, h3.mono hR.size, h4.mono hR.size, h5.mono hR.size⟩
    · obtain ⟨bm, cm, ba, ca, bb, cb, bp, cp, bk, ck, bz, cz, e, hb, N1, N2, N3, N4, N5⟩ : ∃ bm cm ba ca bb cb bp cp bk ck bz cz, t 6 = .tuple #[.slice bm 1 cm, .agg #[.slice ba 1 ca, .slice bb 1 cb, .slice bp 1 cp, .slice bk 10 ck, .slice bz 10 cz], .bool true] ∧ BoxF wx bm 1 awM ∧ Nums wx V.heap.size (.slice ba 1 ca) 1 (aF 2027 1013 4 9 awO (fun _ => 1)) ∧ Nums wx V.heap.size (.slice bb 1 cb) 1 (mxB 2027 1013 4 9 [97] 64 1 awC awO awR (fun _ => 1) (fun _ => 2)) ∧ Nums wx V.heap.size (.slice bp 1 cp) 1 (mxP 2027 1013 4 9 [97] 64 1 awC awO awR (fun _ => 1) (fun _ => 2) (fun _ => 3)) ∧ Nums wx V.heap.size (.slice bk 10 ck) 10 (mxK 2027 1013 4 9 [97] 64 1 awC awO awR (fun _ => 1) (fun _ => 2) (fun _ => 3) (fun _ => 0)) ∧ Nums wx V.heap.size (.slice bz 10 cz) 10 (mxZ 2027 1013 4 9 [97] 64 1 awC awO awR (fun _ => 1) (fun _ => 2) (fun _ => 3) (fun _ => 0)) := hd 6 (by kernel_rfl)
      exact ⟨_, run_extract8 (Eq.trans (b := t 6) (by kernel_rfl) e) rfl, bm, cm, rfl, hb⟩
    · obtain ⟨bm, cm, ba, ca, bb, cb, bp, cp, bk, ck, bz, cz, e, hb, N1, N2, N3, N4, N5⟩ : ∃ bm cm ba ca bb cb bp cp bk ck bz cz, t 6 = .tuple #[.slice bm 1 cm, .agg #[.slice ba 1 ca, .slice bb 1 cb, .slice bp 1 cp, .slice bk 10 ck, .slice bz 10 cz], .bool true] ∧ BoxF wx bm 1 awM ∧ Nums wx V.heap.size (.slice ba 1 ca) 1 (aF 2027 1013 4 9 awO (fun _ => 1)) ∧ Nums wx V.heap.size (.slice bb 1 cb) 1 (mxB 2027 1013 4 9 [97] 64 1 awC awO awR (fun _ => 1) (fun _ => 2)) ∧ Nums wx V.heap.size (.slice bp 1 cp) 1 (mxP 2027 1013 4 9 [97] 64 1 awC awO awR (fun _ => 1) (fun _ => 2) (fun _ => 3)) ∧ Nums wx V.heap.size (.slice bk 10 ck) 10 (mxK 2027 1013 4 9 [97] 64 1 awC awO awR (fun _ => 1) (fun _ => 2) (fun _ => 3) (fun _ => 0)) ∧ Nums wx V.heap.size (.slice bz 10 cz) 10 (mxZ 2027 1013 4 9 [97] 64 1 awC awO awR (fun _ => 1) (fun _ => 2) (fun _ => 3) (fun _ => 0)) := hd 6 (by kernel_rfl)
      exact ⟨_, run_extract8 (Eq.trans (b := t 6) (by kernel_rfl) e) rfl, ba, ca, bb, cb, bp, cp, bk, ck, bz, cz, rfl, N1, N2, N3, N4, N5⟩
    · obtain ⟨bm, cm, ba, ca, bb, cb, bp, cp, bk, ck, bz, cz, e, hb, N1, N2, N3, N4, N5⟩ : ∃ bm cm ba ca bb cb bp cp bk ck bz cz, t 6 = .tuple #[.slice bm 1 cm, .agg #[.slice ba 1 ca, .slice bb 1 cb, .slice bp 1 cp, .slice bk 10 ck, .slice bz 10 cz], .bool true] ∧ BoxF wx bm 1 awM ∧ Nums wx V.heap.size (.slice ba 1 ca) 1 (aF 2027 1013 4 9 awO (fun _ => 1)) ∧ Nums wx V.heap.size (.slice bb 1 cb) 1 (mxB 2027 1013 4 9 [97] 64 1 awC awO awR (fun _ => 1) (fun _ => 2)) ∧ Nums wx V.heap.size (.slice bp 1 cp) 1 (mxP 2027 1013 4 9 [97] 64 1 awC awO awR (fun _ => 1) (fun _ => 2) (fun _ => 3)) ∧ Nums wx V.heap.size (.slice bk 10 ck) 10 (mxK 2027 1013 4 9 [97] 64 1 awC awO awR (fun _ => 1) (fun _ => 2) (fun _ => 3) (fun _ => 0)) ∧ Nums wx V.heap.size (.slice bz 10 cz) 10 (mxZ 2027 1013 4 9 [97] 64 1 awC awO awR (fun _ => 1) (fun _ => 2) (fun _ => 3) (fun _ => 0)) := hd 6 (by kernel_rfl)
      exact run_extract8 (Eq.trans (b := t 6) (by kernel_rfl) e) rfl
    · obtain ⟨ba, ca, bb, cb, bp, cp, bk, ck, bz, cz, e8, _⟩ : ∃ ba ca bb cb bp cp bk ck bz cz, t 8 = .agg #[.slice ba 1 ca, .slice bb 1 cb, .slice bp 1 cp, .slice bk 10 ck, .slice bz 10 cz] ∧ _ := hd 8 (by kernel_rfl)
      obtain ⟨b, e10, hb, cs, hcs, hs⟩ : ∃ b, t 10 = .pointer (some ⟨b, 0, none⟩) ∧ V.heap.size ≤ b ∧ ∃ cs, wx.heap[b]? = some (.cells cs 57 (0, 0)) ∧ cs.size = 5 := hd 10 (by kernel_rfl)
      exact ⟨b, _, cs, e10, e8, hb, hcs, hs, rfl, by simp [Value.oneCell']⟩
  intro t wx hR hk
  simp only [fill2, Ent2.val, rowK, shP, shM, shA, varE, putE, List.set_cons_zero, List.set_cons_succ, List.drop_succ_cons, List.drop_zero, List.drop_nil]
  obtain ⟨bm, cm, e11, hbm⟩ : ∃ bm cm, t 11 = .slice bm 1 cm ∧ BoxF wx bm 1 awM := hk 11 (by omega)
  obtain ⟨ps, cs, e12, hps, hrow⟩ : ∃ b cs, [t 10, t 8] = [.pointer (some ⟨b, 0, none⟩), .agg cs] ∧ V.heap.size ≤ b ∧ wx.heap[b]? = some (.cells cs 57 (0, 0)) := hk 12 (by omega)
  obtain ⟨ba, ca, bb, cb, bp, cp, bk, ck, bz, cz, e8, N1, N2, N3, N4, N5⟩ : ∃ ba ca bb cb bp cp bk ck bz cz, t 8 = .agg #[.slice ba 1 ca, .slice bb 1 cb, .slice bp 1 cp, .slice bk 10 ck, .slice bz 10 cz] ∧ Nums wx V.heap.size (.slice ba 1 ca) 1 (aF 2027 1013 4 9 awO (fun _ => 1)) ∧ Nums wx V.heap.size (.slice bb 1 cb) 1 (mxB 2027 1013 4 9 [97] 64 1 awC awO awR (fun _ => 1) (fun _ => 2)) ∧ Nums wx V.heap.size (.slice bp 1 cp) 1 (mxP 2027 1013 4 9 [97] 64 1 awC awO awR (fun _ => 1) (fun _ => 2) (fun _ => 3)) ∧ Nums wx V.heap.size (.slice bk 10 ck) 10 (mxK 2027 1013 4 9 [97] 64 1 awC awO awR (fun _ => 1) (fun _ => 2) (fun _ => 3) (fun _ => 0)) ∧ Nums wx V.heap.size (.slice bz 10 cz) 10 (mxZ 2027 1013 4 9 [97] 64 1 awC awO awR (fun _ => 1) (fun _ => 2) (fun _ => 3) (fun _ => 0)) := hk 8 (by omega)
  rw [e8] at e12
  have e10 : t 10 = .pointer (some ⟨ps, 0, none⟩) := by injection e12
  have ecs : cs = #[.slice ba 1 ca, .slice bb 1 cb, .slice bp 1 cp, .slice bk 10 ck, .slice bz 10 cz] := by
    injection e12 with _ e12
    injection e12 with e12 _
    injection e12 with e12
    exact e12.symm
  subst ecs
  rw [e10, e11]
  clear e8 e10 e11 e12 hk
  have HV : Hid (Old V wx) := hR
  rcases hbm with h0 | ⟨mb, mcs, rfl, hmb, hmc⟩
  · cases h0
  have HM : Hid (∀ wy, Old wx wy → BoxsIn wy (some ⟨mb, 0, none⟩) 1 awM) := fun wy ho => (BoxF.boxs (Or.inr ⟨mb, mcs, rfl, hmb, hmc⟩)).old ho
  have HMl : Hid (∀ wy, Old wx wy → (loadVar 74 ⟨mb, 0, none⟩).run Tryz.prog wy = .ok (.agg #[.int .u64 1024, .int .u64 1590, .int .u64 42, .int .u64 1936, .int .u64 672, .int .u64 1583]) wy) := fun wy ho => run_load_cells wy mb 0 _ _ _ (fun j v hv => by
    have hh := (ho.block _ (obj_lt hmb)).trans hmb
    rw [Nat.zero_add, cell_of_row _ _ j _ _ (0, 0) hh]
    have hj : j < 6 := (Array.getElem?_eq_some_iff.1 hv).1
    have := (hmc 0 (by omega) j hj).1
    rw [aw_M j hj, Nat.zero_mul, Nat.zero_add] at this
    rw [this, ← hv]
    match j, hj with
    | 0, _ => rfl
    | 1, _ => rfl
    | 2, _ => rfl
    | 3, _ => rfl
    | 4, _ => rfl
    | 5, _ => rfl) Tryz.underlying74 rfl info_box
  have HSr : Hid (∀ wy, Old wx wy → wy.heap[ps]? = some (.cells #[.slice ba 1 ca, .slice bb 1 cb, .slice bp 1 cp, .slice bk 10 ck, .slice bz 10 cz] 57 (0, 0))) := fun wy ho => (ho.block _ (obj_lt hrow)).trans hrow
  have HGx : Hid (∀ wy, Old wx wy → wy.heap[gb]? = some (.cells (gc 2027 1013 4 9 a 5 5) 25 (0, 0))) := fun wy ho => HGv.out wy (HV.out.trans ho)
  have uA : ∀ i, i < 1 → U64 ((aF 2027 1013 4 9 awO (fun _ => 1)) i) := fun i _ => u64_com8 _ _ _ _ _ _
  have uB : ∀ i, i < 1 → U64 ((mxB 2027 1013 4 9 [97] 64 1 awC awO awR (fun _ => 1) (fun _ => 2)) i) := fun i _ => u64_com8 _ _ _ _ _ _
  have uP : ∀ i, i < 1 → U64 ((mxP 2027 1013 4 9 [97] 64 1 awC awO awR (fun _ => 1) (fun _ => 2) (fun _ => 3)) i) := fun i _ => thi_u64 _ _ _ _ _ _ _ _ _ _ _ i
  have uK : ∀ i, i < 10 → U64 ((mxK 2027 1013 4 9 [97] 64 1 awC awO awR (fun _ => 1) (fun _ => 2) (fun _ => 3) (fun _ => 0)) i) := fun i _ => u64_prod _ _ _
  have uZ : ∀ i, i < 10 → U64 ((mxZ 2027 1013 4 9 [97] 64 1 awC awO awR (fun _ => 1) (fun _ => 2) (fun _ => 3) (fun _ => 0)) i) := fun i _ => u64_ans _ _ _ _
  obtain ⟨_, _, E1, q1, q2, f1⟩ := N1.facs2 uA
  obtain ⟨_, _, E2, q3, q4, f2⟩ := N2.facs2 uB
  obtain ⟨_, _, E3, _, _, f3⟩ := N3.facs2 uP
  obtain ⟨_, _, E4, _, _, f4⟩ := N4.facs2 uK
  obtain ⟨_, _, E5, _, _, f5⟩ := N5.facs2 uZ
  cases E1
  cases E2
  cases E3
  cases E4
  cases E5
  have HAc : Hid (∀ wy (bi : Option Addr) (C : Nat → Nat → Int) (ci co : Nat) r, Old wx wy → BoxsIn wy bi 1 C → accG 2027 1013 4 9 [97] 64 1 C 1 awM 1 (aF 2027 1013 4 9 awO (fun _ => 1)) 1 (mxB 2027 1013 4 9 [97] 64 1 awC awO awR (fun _ => 1) (fun _ => 2)) 1 (mxP 2027 1013 4 9 [97] 64 1 awC awO awR (fun _ => 1) (fun _ => 2) (fun _ => 3)) 10 (mxK 2027 1013 4 9 [97] 64 1 awC awO awR (fun _ => 1) (fun _ => 2) (fun _ => 3) (fun _ => 0)) 10 (mxZ 2027 1013 4 9 [97] 64 1 awC awO awR (fun _ => 1) (fun _ => 2) (fun _ => 3) (fun _ => 0)) = r → Calls Tryz.prog 34 #[gv 2027 1013 4 9 a 5 5, .string ⟨#[97]⟩, .int .u64 64, .slice bi 1 ci, .slice (some ⟨mb, 0, none⟩) 1 co, .agg #[.slice ba 1 ca, .slice bb 1 cb, .slice bp 1 cp, .slice bk 10 ck, .slice bz 10 cz]] wy (Ret wy (.bool r))) := fun wy bi C ci co r ho hb hr => by
    have h := saccept_any 2027 1013 4 9 a 5 5 [97] 64 bi 1 ci C (some ⟨mb, 0, none⟩) 1 co awM ba 1 ca _ bb 1 cb _ bp 1 cp _ bk 10 ck _ bz 10 cz _ wy four_sm small_righ ⟨by decide, by decide⟩ (by unfold Bts; decide) (by decide) (by decide) ⟨q1, q2⟩ ⟨q3, q4⟩ (by decide) hb (HM.out wy ho) (f1.old ho) (f2.old ho) (f3.old ho) (f4.old ho) (f5.old ho)
    rw [show strOfNums [97] = ⟨#[97]⟩ by decide +kernel, hr] at h
    exact h
  have HYes : Hid (accG 2027 1013 4 9 [97] 64 1 awC 1 awM 1 (aF 2027 1013 4 9 awO (fun _ => 1)) 1 (mxB 2027 1013 4 9 [97] 64 1 awC awO awR (fun _ => 1) (fun _ => 2)) 1 (mxP 2027 1013 4 9 [97] 64 1 awC awO awR (fun _ => 1) (fun _ => 2) (fun _ => 3)) 10 (mxK 2027 1013 4 9 [97] 64 1 awC awO awR (fun _ => 1) (fun _ => 2) (fun _ => 3) (fun _ => 0)) 10 (mxZ 2027 1013 4 9 [97] 64 1 awC awO awR (fun _ => 1) (fun _ => 2) (fun _ => 3) (fun _ => 0)) = true) := aw_mx.accG [97] fun k _ => Int.le_refl 0
  have HNo : Hid (accG 2027 1013 4 9 [97] 64 1 awM 1 awM 1 (aF 2027 1013 4 9 awO (fun _ => 1)) 1 (mxB 2027 1013 4 9 [97] 64 1 awC awO awR (fun _ => 1) (fun _ => 2)) 1 (mxP 2027 1013 4 9 [97] 64 1 awC awO awR (fun _ => 1) (fun _ => 2) (fun _ => 3)) 10 (mxK 2027 1013 4 9 [97] 64 1 awC awO awR (fun _ => 1) (fun _ => 2) (fun _ => 3) (fun _ => 0)) 10 (mxZ 2027 1013 4 9 [97] 64 1 awC awO awR (fun _ => 1) (fun _ => 2) (fun _ => 3) (fun _ => 0)) = false) := aw_no _ _ _ _
  clear N1 N2 N3 N4 N5 f1 f2 f3 f4 f5 uA uB uP uK uZ hR hrow hmb hmc hps HPv HGv HDv HD HG q1 q2 q3 q4
  generalize aF 2027 1013 4 9 awO (fun _ => 1) = lA at *
  generalize mxB 2027 1013 4 9 [97] 64 1 awC awO awR (fun _ => 1) (fun _ => 2) = lB at *
  generalize mxP 2027 1013 4 9 [97] 64 1 awC awO awR (fun _ => 1) (fun _ => 2) (fun _ => 3) = lP at *
  generalize mxK 2027 1013 4 9 [97] 64 1 awC awO awR (fun _ => 1) (fun _ => 2) (fun _ => 3) (fun _ => 0) = lK at *
  generalize mxZ 2027 1013 4 9 [97] 64 1 awC awO awR (fun _ => 1) (fun _ => 2) (fun _ => 3) (fun _ => 0) = lZ at *
  go_upto_region 4 with fail
  refine wp_region_tab 30 [.k (.bool true), .k (.bool true), .k (.slice (some ⟨mb, 0, none⟩) 1 cm), .k (.int .i64 (1 : Nat)), .k (.bool true), .k (.bool true), .k (.bool true), .k (.slice (some ⟨mb, 0, none⟩) 1 cm), .k (.pointer (some ⟨mb, 0 * 6, none⟩)), .k (.agg #[.int .u64 1024, .int .u64 1590, .int .u64 42, .int .u64 1936, .int .u64 672, .int .u64 1583]), .k (boxV), .k (.bool true), .k (.bool true), .k (.bool true), .k (gv 2027 1013 4 9 a 5 5), .k (boxV), blkE 1 boxA 74, .k (.slice (some ⟨mb, 0, none⟩) 1 cm), .k (.agg #[.slice ba 1 ca, .slice bb 1 cb, .slice bp 1 cp, .slice bk 10 ck, .slice bz 10 cz]), .k (.bool true), .k (.bool true), .k (.bool true), .k (gv 2027 1013 4 9 a 5 5), .k (.slice (some ⟨mb, 0, none⟩) 1 cm), .k (.slice (some ⟨mb, 0, none⟩) 1 cm), .k (.agg #[.slice ba 1 ca, .slice bb 1 cb, .slice bp 1 cp, .slice bk 10 ck, .slice bz 10 cz]), .k (.bool false), .k (.bool true), .k (.bool true), .k (.bool true)] (Old wx) (by kernel_rfl) (by kernel_rfl) rfl ((Old.refl _).drew) ?st ?_
  case st =>
    refine .c stp <|
      .c stp <|
      .c stp <|
      .c stp <|
      .c stp <|
      .c stp <|
      .c stp <|
      .c stp <|
      .c (stj0 (n := 1) (c := cm) 6 (by omega) Tryz.underlying26) <|
      .c (stlv HMl.out) <|
      .c (stK old_R Tryz.func47 (fun wx _ => HBx.out wx)) <|
      .c stp <|
      .c stp <|
      .c stp <|
      .c (sts Tryz.underlying25 HGx.out) <|
      .c (stK old_R Tryz.func47 (fun wx _ => HBx.out wx)) <|
      .c (stm (ob := fun t => .cells boxA 74) (v := fun s => .slice (some ⟨s, 0, none⟩) 1 1) old_R fun t wx hR hd => ⟨_, rfl, heap_alloc_last _ _⟩) <|
      .c stp <|
      .c (sts Tryz.underlying57 HSr.out) <|
      .c (stC (args := fun t => #[gv 2027 1013 4 9 a 5 5, .string ⟨#[97]⟩, .int .u64 64, t 16, .slice (some ⟨mb, 0, none⟩) 1 cm, .agg #[.slice ba 1 ca, .slice bb 1 cb, .slice bp 1 cp, .slice bk 10 ck, .slice bz 10 cz]]) old_R Tryz.func34 fun t wy hR hd => ?_) <|
      .c stp <|
      .c stp <|
      .c (sts Tryz.underlying25 HGx.out) <|
      .c stp <|
      .c stp <|
      .c (sts Tryz.underlying57 HSr.out) <|
      .c (stK old_R Tryz.func34 (fun wy ho => HAc.out wy (some ⟨mb, 0, none⟩) awM cm cm false ho (HM.out wy ho) HNo.out)) <|
      .c stp <|
      .c stp <|
      .c stp .n
    · obtain ⟨b, e, hb⟩ : ∃ b, t 16 = .slice (some ⟨b, 0, none⟩) 1 1 ∧ wy.heap[b]? = some (.cells boxA 74 (0, 0)) := hd 16 (by kernel_rfl)
      rw [e]
      exact (HAc.out wy (some ⟨b, 0, none⟩) awC 1 cm true hR (boxs_one hb) HYes.out).mono fun r w' ⟨h, k⟩ => ⟨_, h, k, rfl⟩
  intro t wz hR hk
  simp only [fill, Ent.val, blkE, List.set_cons_zero, List.set_cons_succ, List.drop_succ_cons, List.drop_zero, List.drop_nil]
  have HO9 : Hid (Old w wz) := (HOw.out.trans HOd.out).trans (HV.out.trans hR)
  clear hR hk
  go_wp2_with fail
  go_ret
  exact ⟨rfl, HO9.out⟩

end Go.Proofs.YtlnmjbbpenhdbaaGreat

namespace Go.Proofs.YtlnmjbbpenhdbaaGreat
open Go.RowKit
set_option linter.unusedSimpArgs false
set_option linter.unusedVariables false

/-- A job: its label, key, batch, order and draws. -/
abbrev jv (label : List Int) (y : Int) (bi : Option Addr) (l ci : Nat) (bo : Option Addr) (no co : Nat) (bρ : Option Addr) (nρ cρ : Nat) (bR : Option Addr) (nR cR : Nat) (bS : Option Addr) (nS cS : Nat) (bT : Option Addr) (nT cT : Nat) (bD : Option Addr) (nD cD : Nat) : Value := .agg #[.string (strOfNums label), .int .u64 y, .slice bi l ci, .slice bo no co, .slice bρ nρ cρ, .slice bR nR cR, .slice bS nS cS, .slice bT nT cT, .slice bD nD cD]
abbrev jvc (label : List Int) (y : Int) (bi : Option Addr) (l ci : Nat) (bo : Option Addr) (no co : Nat) (bρ : Option Addr) (nρ cρ : Nat) (bR : Option Addr) (nR cR : Nat) (bS : Option Addr) (nS cS : Nat) (bT : Option Addr) (nT cT : Nat) (bD : Option Addr) (nD cD : Nat) : Array Value := #[.string (strOfNums label), .int .u64 y, .slice bi l ci, .slice bo no co, .slice bρ nρ cρ, .slice bR nR cR, .slice bS nS cS, .slice bT nT cT, .slice bD nD cD]
def fewR (nρ nR nS nT nD : Nat) : Bool := decide (nρ ≤ 10 ∧ nR ≤ 10 ∧ nS ≤ 10 ∧ nT ≤ 10 ∧ nD ≤ 80)
def fewJ (ln l no nρ nR nS nT nD : Nat) : Bool := decide (ln ≤ 100 ∧ l ≤ 10 ∧ no ≤ 10) && fewR nρ nR nS nT nD
theorem fewJ_iff {ln l no nρ nR nS nT nD : Nat} : fewJ ln l no nρ nR nS nT nD = true ↔ (ln ≤ 100 ∧ l ≤ 10 ∧ no ≤ 10) ∧ nρ ≤ 10 ∧ nR ≤ 10 ∧ nS ≤ 10 ∧ nT ≤ 10 ∧ nD ≤ 80 := by unfold fewJ fewR; simp [Bool.and_eq_true_iff]
set_option maxRecDepth 100000 in
set_option maxHeartbeats 4000000 in
theorem few8d_any (bρ : Option Addr) (nρ cρ : Nat) (bR : Option Addr) (nR cR : Nat) (bS : Option Addr) (nS cS : Nat) (bT : Option Addr) (nT cT : Nat) (bD : Option Addr) (nD cD : Nat) (w : World) : Calls Tryz.prog 49 #[dv bρ nρ cρ bR nR cR bS nS cS bT nT cT bD nD cD] w (Ret w (.bool (fewR nρ nR nS nT nD))) := by
  have HZ := lain1 w (dvc bρ nρ cρ bR nR cR bS nS cS bT nT cT bD nD cD) 31
  have HW0 : Hid (Old w (w.alloc (.cells (dvc bρ nρ cρ bR nR cR bS nS cS bT nT cT bD nD cD) 31))) := HZ.old
  have d0 := HZ.cell 0 0 (by simp) rfl
  have d1 := HZ.cell 0 1 (by simp) rfl
  have d2 := HZ.cell 0 2 (by simp) rfl
  have d3 := HZ.cell 0 3 (by simp) rfl
  have d4 := HZ.cell 0 4 (by simp) rfl
  clear HZ
  simp only [Nat.add_zero] at d0 d1 d2 d3 d4
  by_cases h0 : nρ ≤ 10
  rotate_left
  · have k0 : ¬ (nρ : Int) ≤ 10 := by omega
    have HV : Hid (fewR nρ nR nS nT nD = false) := by unfold Hid fewR; simp [h0]
    rw [HV.out]
    clear h0
    go_enter Tryz.func49, Tryz.ntmps49
    go_upto_region 1 with fail
    generalize w.alloc (.cells (dvc bρ nρ cρ bR nR cR bS nS cS bT nT cT bD nD cD) 31) = W at *
    go_wp2_with fail
    go_ret
    exact ⟨rfl, HW0.out⟩
  have k0 : (nρ : Int) ≤ 10 := by omega
  by_cases h1 : nR ≤ 10
  rotate_left
  · have k1 : ¬ (nR : Int) ≤ 10 := by omega
    have HV : Hid (fewR nρ nR nS nT nD = false) := by unfold Hid fewR; simp [h0, h1]
    rw [HV.out]
    clear h0
    clear h1
    go_enter Tryz.func49, Tryz.ntmps49
    go_upto_region 1 with fail
    generalize w.alloc (.cells (dvc bρ nρ cρ bR nR cR bS nS cS bT nT cT bD nD cD) 31) = W at *
    go_wp2_with fail
    go_ret
    exact ⟨rfl, HW0.out⟩
  have k1 : (nR : Int) ≤ 10 := by omega
  by_cases h2 : nS ≤ 10
  rotate_left
  · have k2 : ¬ (nS : Int) ≤ 10 := by omega
    have HV : Hid (fewR nρ nR nS nT nD = false) := by unfold Hid fewR; simp [h0, h1, h2]
    rw [HV.out]
    clear h0
    clear h1
    clear h2
    go_enter Tryz.func49, Tryz.ntmps49
    go_upto_region 1 with fail
    generalize w.alloc (.cells (dvc bρ nρ cρ bR nR cR bS nS cS bT nT cT bD nD cD) 31) = W at *
    go_wp2_with fail
    go_ret
    exact ⟨rfl, HW0.out⟩
  have k2 : (nS : Int) ≤ 10 := by omega
  by_cases h3 : nT ≤ 10
  rotate_left
  · have k3 : ¬ (nT : Int) ≤ 10 := by omega
    have HV : Hid (fewR nρ nR nS nT nD = false) := by unfold Hid fewR; simp [h0, h1, h2, h3]
    rw [HV.out]
    clear h0
    clear h1
    clear h2
    clear h3
    go_enter Tryz.func49, Tryz.ntmps49
    go_upto_region 1 with fail
    generalize w.alloc (.cells (dvc bρ nρ cρ bR nR cR bS nS cS bT nT cT bD nD cD) 31) = W at *
    go_wp2_with fail
    go_ret
    exact ⟨rfl, HW0.out⟩
  have k3 : (nT : Int) ≤ 10 := by omega
  by_cases h4 : nD ≤ 80
  rotate_left
  · have k4 : ¬ (nD : Int) ≤ 80 := by omega
    have HV : Hid (fewR nρ nR nS nT nD = false) := by unfold Hid fewR; simp [h0, h1, h2, h3, h4]
    rw [HV.out]
    clear h0
    clear h1
    clear h2
    clear h3
    clear h4
    go_enter Tryz.func49, Tryz.ntmps49
    go_upto_region 1 with fail
    generalize w.alloc (.cells (dvc bρ nρ cρ bR nR cR bS nS cS bT nT cT bD nD cD) 31) = W at *
    go_wp2_with fail
    go_ret
    exact ⟨rfl, HW0.out⟩
  have k4 : (nD : Int) ≤ 80 := by omega
  have HV : Hid (fewR nρ nR nS nT nD = true) := by unfold Hid fewR; simp [h0, h1, h2, h3, h4]
  rw [HV.out]
  clear h0
  clear h1
  clear h2
  clear h3
  clear h4
  go_enter Tryz.func49, Tryz.ntmps49
  go_upto_region 1 with fail
  generalize w.alloc (.cells (dvc bρ nρ cρ bR nR cR bS nS cS bT nT cT bD nD cD) 31) = W at *
  go_wp2_with fail
  go_ret
  exact ⟨rfl, HW0.out⟩
set_option maxRecDepth 100000 in
set_option maxHeartbeats 4000000 in
theorem few8_any (label : List Int) (y : Int) (bi : Option Addr) (l ci : Nat) (bo : Option Addr) (no co : Nat) (bρ : Option Addr) (nρ cρ : Nat) (bR : Option Addr) (nR cR : Nat) (bS : Option Addr) (nS cS : Nat) (bT : Option Addr) (nT cT : Nat) (bD : Option Addr) (nD cD : Nat) (w : World) : Calls Tryz.prog 14 #[jv label y bi l ci bo no co bρ nρ cρ bR nR cR bS nS cS bT nT cT bD nD cD] w (Ret w (.bool (fewJ label.length l no nρ nR nS nT nD))) := by
  have HFw : Hid (∀ wx, Calls Tryz.prog 49 #[dv bρ nρ cρ bR nR cR bS nS cS bT nT cT bD nD cD] wx (Ret wx (.bool (fewR nρ nR nS nT nD)))) := fun wx => few8d_any bρ nρ cρ bR nR cR bS nS cS bT nT cT bD nD cD wx
  have hsz : (strOfNums label).size = label.length := strOfNums_size label
  have HZ := lain1 w (jvc label y bi l ci bo no co bρ nρ cρ bR nR cR bS nS cS bT nT cT bD nD cD) 33
  have HW0 : Hid (Old w (w.alloc (.cells (jvc label y bi l ci bo no co bρ nρ cρ bR nR cR bS nS cS bT nT cT bD nD cD) 33))) := HZ.old
  have d0 := HZ.cell 0 0 (by simp) rfl
  have d2 := HZ.cell 0 2 (by simp) rfl
  have d3 := HZ.cell 0 3 (by simp) rfl
  have d4 := HZ.cell 0 4 (by simp) rfl
  have d5 := HZ.cell 0 5 (by simp) rfl
  have d6 := HZ.cell 0 6 (by simp) rfl
  have d7 := HZ.cell 0 7 (by simp) rfl
  have d8 := HZ.cell 0 8 (by simp) rfl
  clear HZ
  simp only [Nat.add_zero] at d0 d2 d3 d4 d5 d6 d7 d8
  by_cases h0 : label.length ≤ 100
  rotate_left
  · have k0 : ¬ (label.length : Int) ≤ 100 := by omega
    have HV : Hid (fewJ label.length l no nρ nR nS nT nD = false) := by unfold Hid fewJ; simp [h0]
    rw [HV.out]
    clear h0
    go_enter Tryz.func14, Tryz.ntmps14
    go_upto_region 1 with fail
    generalize w.alloc (.cells (jvc label y bi l ci bo no co bρ nρ cρ bR nR cR bS nS cS bT nT cT bD nD cD) 33) = W at *
    go_wp2_with fail
    go_ret
    exact ⟨rfl, HW0.out⟩
  have k0 : (label.length : Int) ≤ 100 := by omega
  by_cases h1 : l ≤ 10
  rotate_left
  · have k1 : ¬ (l : Int) ≤ 10 := by omega
    have HV : Hid (fewJ label.length l no nρ nR nS nT nD = false) := by unfold Hid fewJ; simp [h0, h1]
    rw [HV.out]
    clear h0
    clear h1
    go_enter Tryz.func14, Tryz.ntmps14
    go_upto_region 1 with fail
    generalize w.alloc (.cells (jvc label y bi l ci bo no co bρ nρ cρ bR nR cR bS nS cS bT nT cT bD nD cD) 33) = W at *
    go_wp2_with fail
    go_ret
    exact ⟨rfl, HW0.out⟩
  have k1 : (l : Int) ≤ 10 := by omega
  by_cases h2 : no ≤ 10
  rotate_left
  · have k2 : ¬ (no : Int) ≤ 10 := by omega
    have HV : Hid (fewJ label.length l no nρ nR nS nT nD = false) := by unfold Hid fewJ; simp [h0, h1, h2]
    rw [HV.out]
    clear h0
    clear h1
    clear h2
    go_enter Tryz.func14, Tryz.ntmps14
    go_upto_region 1 with fail
    generalize w.alloc (.cells (jvc label y bi l ci bo no co bρ nρ cρ bR nR cR bS nS cS bT nT cT bD nD cD) 33) = W at *
    go_wp2_with fail
    go_ret
    exact ⟨rfl, HW0.out⟩
  have k2 : (no : Int) ≤ 10 := by omega
  have HV : Hid (fewJ label.length l no nρ nR nS nT nD = fewR nρ nR nS nT nD) := by unfold Hid fewJ; simp [h0, h1, h2]
  rw [HV.out]
  clear h0
  clear h1
  clear h2
  generalize fewR nρ nR nS nT nD = fr at *
  go_enter Tryz.func14, Tryz.ntmps14
  go_upto_region 1 with fail
  generalize w.alloc (.cells (jvc label y bi l ci bo no co bρ nρ cρ bR nR cR bS nS cS bT nT cT bD nD cD) 33) = W at *
  go_wp2_with (go_at_call 49; refine (HFw.out _).mono ?_; rintro e w1 ⟨rfl, o1⟩)
  go_ret
  exact ⟨rfl, HW0.out.trans o1⟩

end Go.Proofs.YtlnmjbbpenhdbaaGreat

namespace Go.Proofs.YtlnmjbbpenhdbaaGreat
open Go.RowKit
set_option linter.unusedSimpArgs false
set_option linter.unusedVariables false

def opI8 (P Q x u v : Int) : Int := overI P v (prodI P (fun _ => expI P Q u x) 1)
set_option maxHeartbeats 4000000 in
theorem open8_any (P Q G H : Int) (a : Option Addr) (n cap : Nat) (u v x : Int) (bg bx : Nat) (w : World) (h4 : Four P Q G H) (hr : Righ P Q G) (hx : U64 x) (hu : U64 u) (hv : U64 v) (iu : inI P Q u = true)
    (g0 : w.cell? ⟨bg, 0, none⟩ = some (.int .u64 P)) (g1 : w.cell? ⟨bg, 1, none⟩ = some (.int .u64 Q)) (g2 : w.cell? ⟨bg, 2, none⟩ = some (.int .u64 G)) (g3 : w.cell? ⟨bg, 3, none⟩ = some (.int .u64 H)) (g4 : w.cell? ⟨bg, 4, none⟩ = some (.slice a n cap)) (gx : w.cell? ⟨bx, 0, none⟩ = some (.int .u64 x)) :
    Calls Tryz.prog 39 #[pv u v, .pointer (some ⟨bg, 0, none⟩), .pointer (some ⟨bx, 0, none⟩)] w fun e w' => e = .returned (.int .u64 (opI8 P Q x u v)) ∧ Old w w' := by
  have HH : Hid (∀ wx, Calls Tryz.prog 41 #[gv P Q G H a n cap, .int .u64 x, pv u v] wx fun e w' => e = .returned (.int .u64 (expI P Q u x)) ∧ Old wx w') := fun wx => gshare_any P Q G H a n cap x u v wx h4 hr hx hu
  have HP : Hid (∀ wx t, Calls Tryz.prog 40 #[gv P Q G H a n cap, pv u v, .slice (some ⟨wx.heap.size, 0, none⟩) 1 1] (wx.alloc (.cells #[.int .u64 (expI P Q u x)] t)) fun e w' => e = .returned (.int .u64 (opI8 P Q x u v)) ∧ Old wx w') :=
    fun wx t => (gopen_any P Q G H a n cap u v _ 1 1 _ _ h4 hr hv (by decide) (by decide) (facs_one wx _ t (u64_exp _ _ _ _)) (fun i _ => hr.exp_in iu)).mono fun e w' ⟨h, k⟩ => ⟨by rw [h]; rfl, ((Old.refl _).alloc _).trans k⟩
  have HZ : Hid (Old w (w.alloc (.cells (pc u v) 69))) := (Old.refl _).alloc _
  have z0 : (w.alloc (.cells (pc u v) 69)).cell? ⟨w.heap.size, 0, none⟩ = some (.int .u64 u) := (World.cell?_alloc_mark w _ _ (0, 0) 0).trans rfl
  have z1 : (w.alloc (.cells (pc u v) 69)).cell? ⟨w.heap.size, 1, none⟩ = some (.int .u64 v) := (World.cell?_alloc_mark w _ _ (0, 0) 1).trans rfl
  have HT : Hid (∀ w', Old (w.alloc (.cells (pc u v) 69)) w' → w'.cell? ⟨bg, 0, none⟩ = some (.int .u64 P) ∧ w'.cell? ⟨bg, 1, none⟩ = some (.int .u64 Q) ∧ w'.cell? ⟨bg, 2, none⟩ = some (.int .u64 G) ∧ w'.cell? ⟨bg, 3, none⟩ = some (.int .u64 H) ∧ w'.cell? ⟨bg, 4, none⟩ = some (.slice a n cap) ∧ w'.cell? ⟨bx, 0, none⟩ = some (.int .u64 x) ∧ w'.cell? ⟨w.heap.size, 0, none⟩ = some (.int .u64 u) ∧ w'.cell? ⟨w.heap.size, 1, none⟩ = some (.int .u64 v)) := fun w' ho =>
    ⟨(HZ.out.trans ho).cellOf g0, (HZ.out.trans ho).cellOf g1, (HZ.out.trans ho).cellOf g2, (HZ.out.trans ho).cellOf g3, (HZ.out.trans ho).cellOf g4, (HZ.out.trans ho).cellOf gx, ho.cellOf z0, ho.cellOf z1⟩
  generalize expI P Q u x = sh at *
  generalize opI8 P Q x u v = z at *
  clear h4 hr hx hu hv iu g0 g1 g2 g3 g4 gx z0 z1
  go_enter Tryz.func39, Tryz.ntmps39
  go_upto_region 1 with fail
  generalize hW : w.alloc (.cells (pc u v) 69) = W at *
  clear hW
  obtain ⟨d0, d1, d2, d3, d4, dx, cc0, cc1⟩ := HT.out _ (Old.refl _)
  go_region_held3 (fun w' => w'.cell? ⟨bg, 0, none⟩ = some (.int .u64 P) ∧ w'.cell? ⟨bg, 1, none⟩ = some (.int .u64 Q) ∧ w'.cell? ⟨bg, 2, none⟩ = some (.int .u64 G) ∧ w'.cell? ⟨bg, 3, none⟩ = some (.int .u64 H) ∧ w'.cell? ⟨bg, 4, none⟩ = some (.slice a n cap) ∧ w'.cell? ⟨bx, 0, none⟩ = some (.int .u64 x) ∧ w'.cell? ⟨w.heap.size, 0, none⟩ = some (.int .u64 u) ∧ w'.cell? ⟨w.heap.size, 1, none⟩ = some (.int .u64 v)) (first | exact HT.out _ (by assumption) | (go_keep; done)) (first
    | (go_at_call 41; refine (HH.out _).mono ?_; rintro e w4 ⟨rfl, ho4⟩; have hq : Old W w4 := (Old.refl _).drew.trans ho4)
    | (go_at_call 40; refine (HP.out _ _).mono ?_; rintro e w5 ⟨rfl, ho5⟩; have hq5 : Old W w5 := hq.trans ho5))
  go_wp2_with fail
  go_ret
  exact ⟨rfl, HZ.out.trans hq5⟩

/-- A call of a closure whose answer is known. -/
theorem stKf {P : Program} {ops : List Oper} {L0 : List Value} {E : List Ent} {R : World → Prop} {f : FuncId} {fn : Func} {c : Code} {x : Operand} {os : Array Operand} {tys : Array TypeId} {dst : Option Tmp} {ty : TypeId} {pos : String} {after : Array Edge} {guard : Option (Nat × Bool)} (caps : Array Value) {args : Array Value} {v : Value} (hR : ∀ w w', R w → Old w w' → R w') (hf : P.funcs[f]? = some fn)
    (h : ∀ wx, R wx → Calls P f args wx fun r w' => r = .returned v ∧ Old wx w')
    (hg : guardT E ⟨dst, .call ⟨.value x, os, tys⟩, ty, pos, after, guard⟩ = some true := by rfl) (hn : (fn.name == "runtime.NumGoroutine") = false := by decide) (hb : fn.body = some c := by rfl) (hfx : ∀ t, Act.eval ⟨(fill ops E t 0 L0).toArray, []⟩ x = .func (.func f) #[] caps := by intro _; kernel_rfl) (hx : ∀ t, os.map (Act.eval ⟨(fill ops E t 0 L0).toArray, []⟩) ++ caps = args := by intro _; kernel_rfl) : StepT P ops L0 E R ⟨dst, .call ⟨.value x, os, tys⟩, ty, pos, after, guard⟩ (.k v) :=
  stCf caps hR hf (fun t wx hRx _ => (h wx hRx).mono fun r w' ⟨h1, h2⟩ => ⟨v, h1, h2, rfl⟩) hg hn hb hfx hx
/-- A mixed batch, or none. -/
def mbE {T : TypeId} (hT : T ≠ 74) (n : Nat) (M : Nat → Nat → Int) : Ent2 (OldT T) := .u (fun v w => ∃ b, v = .tuple #[.slice b n n, .bool true] ∧ BoxF w b n M) fun _ _ _ ⟨b, e, h⟩ ho => ⟨b, e, h.oldT hT ho⟩
def msE {T : TypeId} (hT : T ≠ 74) (n : Nat) (M : Nat → Nat → Int) : Ent2 (OldT T) := .u (fun v w => ∃ b, v = .slice b n n ∧ BoxF w b n M) fun _ _ _ ⟨b, e, h⟩ ho => ⟨b, e, h.oldT hT ho⟩
def noE (T : TypeId) : Ent2 (OldT T) := .u (fun v _ => ∃ b, v = .tuple #[.slice b 0 0, .bool false]) fun _ _ _ h _ => h
def nsE (T : TypeId) : Ent2 (OldT T) := .u (fun v _ => ∃ b, v = .slice b 0 0) fun _ _ _ h _ => h
theorem info_pair8 : (Tryz.prog.info? 69).map (·.size) = some 2 := by kernel_rfl
theorem pair_load8 (w : World) (b off : Nat) (u v : Int) (h0 : w.cell? ⟨b, off, none⟩ = some (.int .u64 u)) (h1 : w.cell? ⟨b, off + 1, none⟩ = some (.int .u64 v)) : (loadVar 69 ⟨b, off, none⟩).run Tryz.prog w = .ok (pv u v) w :=
  run_load_cells w b off _ #[.int .u64 u, .int .u64 v] _ (fun j v hv => by
    match j, (show j < 2 from (Array.getElem?_eq_some_iff.1 hv).1) with
    | 0, _ => exact h0.trans hv
    | 1, _ => exact h1.trans hv) Tryz.underlying69 rfl info_pair8
set_option maxRecDepth 100000 in
set_option maxHeartbeats 16000000 in
theorem law8_opens (x : Int) (P Q G H : Int) (a : Option Addr) (m cap : Nat) (N A : Nat → Int) (FA : Nat → Option Addr) (RL RC : Nat → Nat) (RF : Nat → Nat → Int) (label : List Int) (y : Int) (bi : Option Addr) (l ci : Nat) (C : Nat → Nat → Int) (bo : Option Addr) (no co : Nat) (O : Nat → Int) (bρ : Option Addr) (nρ cρ : Nat) (Rh : Nat → Nat → Int) (bR : Option Addr) (nR cR : Nat) (R : Nat → Int) (bS : Option Addr) (nS cS : Nat) (S : Nat → Int) (bT : Option Addr) (nT cT : Nat) (T : Nat → Int) (bD : Option Addr) (nD cD : Nat) (D : Nat → Int) (w : World) (hxu : U64 x) (h4 : Four P Q G H) (_hcap : m ≤ cap) (hin : RowsIn w a m N A FA RL RC RF) (hlb : Bts label) (hy : U64 y) (hC : BoxsIn w bi l C) (hO : IntsIn w bo no O) (hρ : RhoIn w bρ nρ Rh) (hR : FacsIn w bR nR R) (hS : FacsIn w bS nS S) (hcT : nT ≤ cT ∧ cT ≤ 9223372036854775807) (hT : FacsIn w bT nT T) (hcD : nD ≤ cD ∧ cD ≤ 9223372036854775807) (hD : FacsIn w bD nD D) :
    Calls Tryz.prog 9 #[gv P Q G H a m cap, jv label y bi l ci bo no co bρ nρ cρ bR nR cR bS nS cS bT nT cT bD nD cD, .int .u64 x] w (Ret w (.bool true)) := by
  have HA : Hid (∀ wx, Calls Tryz.prog 12 #[] wx (Ret wx (.bool true))) := fun wx => awake8_any wx
  have HU : Hid (∀ wx, Old w wx → Calls Tryz.prog 13 #[gv P Q G H a m cap] wx fun e w' => e = .returned (.bool (fewB RL m && rightI P Q G H N A RF RL m)) ∧ Old wx w') := fun wx ho => group5_any P Q G H a m cap N A FA RL RC RF wx h4 (hin.old ho)
  have HL : Hid (∀ wx, Calls Tryz.prog 14 #[jv label y bi l ci bo no co bρ nρ cρ bR nR cR bS nS cS bT nT cT bD nD cD] wx (Ret wx (.bool (fewJ label.length l no nρ nR nS nT nD)))) := fun wx => few8_any label y bi l ci bo no co bρ nρ cρ bR nR cR bS nS cS bT nT cT bD nD cD wx
  have ha := hin.a0
  have HZ := lain3 w (gc P Q G H a m cap) (jvc label y bi l ci bo no co bρ nρ cρ bR nR cR bS nS cS bT nT cT bD nD cD) #[.int .u64 x] 25 33 22
  have HG0 := fun w' ho => (HZ.then (W' := w') ho).row 0 (by simp)
  have HJ0 := fun w' ho => (HZ.then (W' := w') ho).row 1 (by simp)
  have HX0 := fun w' ho => (HZ.then (W' := w') ho).row 2 (by simp)
  have HW0 : Hid (Old w (((w.alloc (.cells (gc P Q G H a m cap) 25)).alloc (.cells (jvc label y bi l ci bo no co bρ nρ cρ bR nR cR bS nS cS bT nT cT bD nD cD) 33)).alloc (.cells #[.int .u64 x] 22))) := HZ.old
  clear HZ hin
  go_enter Tryz.func9, Tryz.ntmps9
  go_upto_region 1 with fail
  generalize (((w.alloc (.cells (gc P Q G H a m cap) 25)).alloc (.cells (jvc label y bi l ci bo no co bρ nρ cρ bR nR cR bS nS cS bT nT cT bD nD cD) 33)).alloc (.cells #[.int .u64 x] 22)) = W at *
  have HG : Hid (∀ wx, Old W wx → wx.heap[w.heap.size]? = some (.cells (gc P Q G H a m cap) 25 (0, 0))) := HG0
  have HJ : Hid (∀ wx, Old W wx → wx.heap[w.heap.size + 1]? = some (.cells (jvc label y bi l ci bo no co bρ nρ cρ bR nR cR bS nS cS bT nT cT bD nD cD) 33 (0, 0))) := HJ0
  have HX : Hid (∀ wx, Old W wx → wx.heap[w.heap.size + 1 + 1]? = some (.cells #[.int .u64 x] 22 (0, 0))) := HX0
  clear HG0 HJ0 HX0
  obtain ⟨gb, hgb⟩ : ∃ gb, gb = w.heap.size := ⟨_, rfl⟩
  rw [← hgb] at HG HJ HX
  rw [← hgb]
  clear hgb
  have HGc : Hid (∀ wx, Old W wx → wx.cell? ⟨gb, 0, none⟩ = some (.int .u64 P) ∧ wx.cell? ⟨gb, 1, none⟩ = some (.int .u64 Q) ∧ wx.cell? ⟨gb, 2, none⟩ = some (.int .u64 G) ∧ wx.cell? ⟨gb, 3, none⟩ = some (.int .u64 H) ∧ wx.cell? ⟨gb, 4, none⟩ = some (.slice a m cap)) := fun wx ho => ⟨cell_of_row _ _ 0 _ _ (0, 0) (HG.out _ ho), cell_of_row _ _ 1 _ _ (0, 0) (HG.out _ ho), cell_of_row _ _ 2 _ _ (0, 0) (HG.out _ ho), cell_of_row _ _ 3 _ _ (0, 0) (HG.out _ ho), cell_of_row _ _ 4 _ _ (0, 0) (HG.out _ ho)⟩
  have HJc : Hid (∀ wx, Old W wx → wx.cell? ⟨gb + 1, 0, none⟩ = some (.string (strOfNums label)) ∧ wx.cell? ⟨gb + 1, 1, none⟩ = some (.int .u64 y) ∧ wx.cell? ⟨gb + 1, 2, none⟩ = some (.slice bi l ci) ∧ wx.cell? ⟨gb + 1, 3, none⟩ = some (.slice bo no co) ∧ wx.cell? ⟨gb + 1, 4, none⟩ = some (.slice bρ nρ cρ) ∧ wx.cell? ⟨gb + 1, 5, none⟩ = some (.slice bR nR cR) ∧ wx.cell? ⟨gb + 1, 6, none⟩ = some (.slice bS nS cS) ∧ wx.cell? ⟨gb + 1, 7, none⟩ = some (.slice bT nT cT) ∧ wx.cell? ⟨gb + 1, 8, none⟩ = some (.slice bD nD cD)) := fun wx ho => ⟨cell_of_row _ _ 0 _ _ (0, 0) (HJ.out _ ho), cell_of_row _ _ 1 _ _ (0, 0) (HJ.out _ ho), cell_of_row _ _ 2 _ _ (0, 0) (HJ.out _ ho), cell_of_row _ _ 3 _ _ (0, 0) (HJ.out _ ho), cell_of_row _ _ 4 _ _ (0, 0) (HJ.out _ ho), cell_of_row _ _ 5 _ _ (0, 0) (HJ.out _ ho), cell_of_row _ _ 6 _ _ (0, 0) (HJ.out _ ho), cell_of_row _ _ 7 _ _ (0, 0) (HJ.out _ ho), cell_of_row _ _ 8 _ _ (0, 0) (HJ.out _ ho)⟩
  have HXc : Hid (∀ wx, Old W wx → wx.cell? ⟨gb + 1 + 1, 0, none⟩ = some (.int .u64 x)) := fun wx ho => cell_of_row _ _ 0 _ _ (0, 0) (HX.out _ ho)
  go_upto_region 3 with (go_at_call 12; refine (HA.out _).mono ?_; rintro e w1 ⟨rfl, h1⟩)
  have HO1 : Hid (Old W w1) := h1
  clear h1 HA
  obtain ⟨g0, g1, g2, g3, g4⟩ := HGc.out _ HO1.out
  cases hg : (fewB RL m && rightI P Q G H N A RF RL m)
  · rw [hg] at HU
    clear hg ha h4 hC hO hρ hR hS hT hD
    go_wp2_with (go_at_call 13; refine (HU.out _ (HW0.out.trans HO1.out)).mono ?_; rintro e w3 ⟨rfl, o3⟩)
    go_ret
    exact ⟨rfl, (HW0.out.trans HO1.out).trans o3⟩
  have hg' := (Bool.and_eq_true_iff.1 hg).2
  have hr := right_righ ha hg'
  have hh := right_h hg'
  rw [hg] at HU
  clear hg hg' ha
  cases hf : fewJ label.length l no nρ nR nS nT nD
  · rw [hf] at HL
    clear hf h4 hC hO hρ hR hS hT hD hr
    go_wp2_with (first
      | (go_at_call 13; refine (HU.out _ (HW0.out.trans HO1.out)).mono ?_; rintro e w3 ⟨rfl, o3⟩; obtain ⟨j0, j1, j2, j3, j4, j5, j6, j7, j8⟩ := HJc.out _ (HO1.out.trans o3))
      | (go_at_call 14; refine (HL.out _).mono ?_; rintro e w4 ⟨rfl, o4⟩))
    go_ret
    exact ⟨rfl, ((HW0.out.trans HO1.out).trans o3).trans o4⟩
  rw [hf] at HL
  obtain ⟨⟨hll, ml, mo⟩, mρ, mR, mS, mT, mD⟩ := fewJ_iff.1 hf
  clear hf
  have HKe : Hid (∀ wx, Calls Tryz.prog 38 #[gv P Q G H a m cap, .int .u64 x] wx (Ret wx (.int .u64 (expI P Q G x)))) := fun wx => gkey_any P Q G H a m cap x wx h4 hr hxu
  cases hm : mixB P Q (expI P Q G x) l C no O nρ
  · have HMx : Hid (∀ wx, Old w wx → Calls Tryz.prog 15 #[gv P Q G H a m cap, .int .u64 (expI P Q G x), .slice bi l ci, .slice bo no co, .slice bρ nρ cρ] wx fun e w' => Old wx w' ∧ ∃ b, e = .returned (.tuple #[.slice b 0 0, .bool false]) ∧ BoxF w' b 0 (mixC P Q G (expI P Q G x) C O Rh)) := fun wx ho => (smix_any P Q G H a m cap (expI P Q G x) bi l ci C bo no co O bρ nρ cρ Rh wx h4 hr (u64_exp _ _ _ _) (by omega) (by omega) (by omega) (hC.old ho) (hO.old ho) (hρ.old ho)).mono fun e w' h => by rw [hm] at h; exact h
    clear hm h4 hC hO hρ hR hS hT hD hr hxu
    go_upto_region 5 with (first
      | (go_at_call 13; refine (HU.out _ (HW0.out.trans HO1.out)).mono ?_; rintro e w3 ⟨rfl, o3⟩; obtain ⟨j0, j1, j2, j3, j4, j5, j6, j7, j8⟩ := HJc.out _ (HO1.out.trans o3))
      | (go_at_call 14; refine (HL.out _).mono ?_; rintro e w4 ⟨rfl, o4⟩))
    have HO4 : Hid (Old W w4) := (HO1.out.trans o3).trans o4
    clear o3 o4 HU HL HO1 g0 g1 g2 g3 g4 j0 j1 j2 j3 j4 j5 j6 j7 j8
    refine wp_region_tab2 (Rl := OldT 41) 17 [.k (gv P Q G H a m cap), .k (gv P Q G H a m cap), .k (.int .u64 x), .k (.int .u64 (expI P Q G x)), .k (.pointer (some ⟨gb + 1, 2, none⟩)), .k (.slice bi l ci), .k (.pointer (some ⟨gb + 1, 3, none⟩)), .k (.slice bo no co), .k (.pointer (some ⟨gb + 1, 4, none⟩)), .k (.pointer (some ⟨gb + 1, 4, none⟩)), .k (.slice bρ nρ cρ), (noE 41), (noE 41), (nsE 41), .k (.bool false), (nsE 41), .k (.bool false)] (Old w4) (by kernel_rfl) (by kernel_rfl) rfl (by kernel_rfl) ((Old.refl _).drew) ?st ?_
    case st =>
      refine .c (stsy Tryz.underlying25 (fun wz ho => HG.out wz (HO4.out.trans ho))) <|
        .c (stsy Tryz.underlying25 (fun wz ho => HG.out wz (HO4.out.trans ho))) <|
        .c (stfy 0 Tryz.underlying22 (fun wz ho => HX.out wz (HO4.out.trans ho))) <|
        .c (stKy old_R Tryz.func38 (fun wy _ => HKe.out wy)) <|
        .c stpy <|
        .c (stfy 2 Tryz.underlying26 (fun wz ho => HJ.out wz (HO4.out.trans ho))) <|
        .c stpy <|
        .c (stfy 3 Tryz.underlying27 (fun wz ho => HJ.out wz (HO4.out.trans ho))) <|
        .c stpy <|
        .c stpy <|
        .c (stfy 4 Tryz.underlying28 (fun wz ho => HJ.out wz (HO4.out.trans ho))) <|
        .c (stCy (args := fun t => #[gv P Q G H a m cap, .int .u64 (expI P Q G x), .slice bi l ci, .slice bo no co, .slice bρ nρ cρ]) old_R Tryz.func15 fun t wx hR hd => ?_) <|
        .c (stxy fun t wx hR hd => ⟨t 11, by kernel_rfl, hd 11 (by kernel_rfl)⟩) <|
        .c (stxy fun t wx hR hd => ?_) <|
        .c (stzy fun t wx hR hd => ?_) <|
        .c (stxy fun t wx hR hd => ⟨t 13, by kernel_rfl, hd 13 (by kernel_rfl)⟩) <|
        .c stpy .n
      · exact (HMx.out wx ((HW0.out.trans HO4.out).trans hR)).mono fun r w' ⟨o, b, e, hb⟩ => ⟨_, e, o, b, rfl⟩
      · obtain ⟨b, e⟩ : ∃ b, t 12 = .tuple #[.slice b 0 0, .bool false] := hd 12 (by kernel_rfl)
        exact ⟨_, run_extract8 (Eq.trans (b := t 12) (by kernel_rfl) e) rfl, b, rfl⟩
      · obtain ⟨b, e⟩ : ∃ b, t 12 = .tuple #[.slice b 0 0, .bool false] := hd 12 (by kernel_rfl)
        exact run_extract8 (Eq.trans (b := t 12) (by kernel_rfl) e) rfl
    intro t wk hR hk
    simp only [fill2, Ent2.val, mbE, msE, noE, nsE, List.set_cons_zero, List.set_cons_succ, List.drop_succ_cons, List.drop_zero, List.drop_nil]
    obtain ⟨b15, e15⟩ : ∃ b, t 15 = .slice b 0 0 := hk 15 (by omega)
    rw [e15]
    have HOk : Hid (Old w4 wk) := hR
    clear e15 hk hR
    go_wp2_with fail
    go_ret
    exact ⟨rfl, (HW0.out.trans HO4.out).trans HOk.out⟩
  have HMx : Hid (∀ wx, Old w wx → Calls Tryz.prog 15 #[gv P Q G H a m cap, .int .u64 (expI P Q G x), .slice bi l ci, .slice bo no co, .slice bρ nρ cρ] wx fun e w' => Old wx w' ∧ ∃ b, e = .returned (.tuple #[.slice b l l, .bool true]) ∧ BoxF w' b l (mixC P Q G (expI P Q G x) C O Rh)) := fun wx ho => (smix_any P Q G H a m cap (expI P Q G x) bi l ci C bo no co O bρ nρ cρ Rh wx h4 hr (u64_exp _ _ _ _) (by omega) (by omega) (by omega) (hC.old ho) (hO.old ho) (hρ.old ho)).mono fun e w' h => by rw [hm] at h; exact h
  unfold mixB at hm
  simp only [Bool.and_eq_true_iff, decide_eq_true_eq] at hm
  obtain ⟨e5, e6, hor, hba, _⟩ := hm
  have e5' : l = no := e5.symm
  subst e5'
  have e6' : l = nρ := e6.symm
  subst e6'
  clear e5 e6
  have HPo : Hid (OrdP l O) := ordB_iff.1 hor
  have HBi : Hid (∀ j, j < l → ∀ k, k < 6 → inI P Q (C j k) = true) := (batB_iff.1 hba).2
  have HCx : Hid (BoxsIn w bi l C) := hC
  have HOx : Hid (IntsIn w bo l O) := hO
  have HRx : Hid (∀ i, i < l → ∀ k, k < 3 → 0 ≤ Rh i k) := fun i hi k hk => (hρ.u64 hi hk).1
  have HOp : Hid (∀ wx u v, U64 u → U64 v → inI P Q u = true → wx.cell? ⟨gb, 0, none⟩ = some (.int .u64 P) → wx.cell? ⟨gb, 1, none⟩ = some (.int .u64 Q) → wx.cell? ⟨gb, 2, none⟩ = some (.int .u64 G) → wx.cell? ⟨gb, 3, none⟩ = some (.int .u64 H) → wx.cell? ⟨gb, 4, none⟩ = some (.slice a m cap) → wx.cell? ⟨gb + 1 + 1, 0, none⟩ = some (.int .u64 x) → Calls Tryz.prog 39 #[pv u v, .pointer (some ⟨gb, 0, none⟩), .pointer (some ⟨gb + 1 + 1, 0, none⟩)] wx (Ret wx (.int .u64 (opI8 P Q x u v)))) := fun wx u v hu hv iu g0 g1 g2 g3 g4 gx => open8_any P Q G H a m cap u v x gb (gb + 1 + 1) wx h4 hr hxu hu hv iu g0 g1 g2 g3 g4 gx
  have HEq : Hid (∀ i, i < l → ∀ k, k < 3 → opI8 P Q x ((mixC P Q G (expI P Q G x) C O Rh) i (2 * k)) ((mixC P Q G (expI P Q G x) C O Rh) i (2 * k + 1)) = opI8 P Q x (C (O i).toNat (2 * k)) (C (O i).toNat (2 * k + 1))) := fun i hi k hk => by
    have ho := HPo.out.2.1 i hi
    have h := hr.open_again (HBi.out (O i).toNat (by omega) (2 * k) (by omega)) (HBi.out (O i).toNat (by omega) (2 * k + 1) (by omega)) hxu.1 (HRx.out i hi k hk)
    have e1 : (mixC P Q G (expI P Q G x) C O Rh) i (2 * k) = mulI (C (O i).toNat (2 * k)) (expI P Q G (Rh i k)) P := by unfold mixC; rw [if_pos (by omega), show 2 * k / 2 = k by omega]
    have e2 : (mixC P Q G (expI P Q G x) C O Rh) i (2 * k + 1) = mulI (C (O i).toNat (2 * k + 1)) (expI P Q (expI P Q G x) (Rh i k)) P := by unfold mixC; rw [if_neg (by omega), show (2 * k + 1) / 2 = k by omega]
    rw [e1, e2]
    exact h
  have HMi : Hid (∀ i, i < l → ∀ k, k < 3 → inI P Q ((mixC P Q G (expI P Q G x) C O Rh) i (2 * k)) = true) := fun i hi k hk => by
    have ho := HPo.out.2.1 i hi
    unfold mixC
    rw [if_pos (by omega)]
    exact hr.mul_in (HBi.out (O i).toNat (by omega) (2 * k) (by omega)) (hr.exp_in hr.gin)
  clear hor hba h4 hC hO hρ hR hS hT hD hr hxu
  go_upto_region 5 with (first
    | (go_at_call 13; refine (HU.out _ (HW0.out.trans HO1.out)).mono ?_; rintro e w3 ⟨rfl, o3⟩; obtain ⟨j0, j1, j2, j3, j4, j5, j6, j7, j8⟩ := HJc.out _ (HO1.out.trans o3))
    | (go_at_call 14; refine (HL.out _).mono ?_; rintro e w4 ⟨rfl, o4⟩))
  have HO4 : Hid (Old W w4) := (HO1.out.trans o3).trans o4
  clear o3 o4 HU HL HO1 g0 g1 g2 g3 g4 j0 j1 j2 j3 j4 j5 j6 j7 j8
  refine wp_region_tab2 (Rl := OldT 41) 17 [.k (gv P Q G H a m cap), .k (gv P Q G H a m cap), .k (.int .u64 x), .k (.int .u64 (expI P Q G x)), .k (.pointer (some ⟨gb + 1, 2, none⟩)), .k (.slice bi l ci), .k (.pointer (some ⟨gb + 1, 3, none⟩)), .k (.slice bo l co), .k (.pointer (some ⟨gb + 1, 4, none⟩)), .k (.pointer (some ⟨gb + 1, 4, none⟩)), .k (.slice bρ l cρ), (mbE (by decide) l (mixC P Q G (expI P Q G x) C O Rh)), (mbE (by decide) l (mixC P Q G (expI P Q G x) C O Rh)), (msE (by decide) l (mixC P Q G (expI P Q G x) C O Rh)), .k (.bool true), (msE (by decide) l (mixC P Q G (expI P Q G x) C O Rh)), .k (.bool true)] (Old w4) (by kernel_rfl) (by kernel_rfl) rfl (by kernel_rfl) ((Old.refl _).drew) ?st ?_
  case st =>
    refine .c (stsy Tryz.underlying25 (fun wz ho => HG.out wz (HO4.out.trans ho))) <|
      .c (stsy Tryz.underlying25 (fun wz ho => HG.out wz (HO4.out.trans ho))) <|
      .c (stfy 0 Tryz.underlying22 (fun wz ho => HX.out wz (HO4.out.trans ho))) <|
      .c (stKy old_R Tryz.func38 (fun wy _ => HKe.out wy)) <|
      .c stpy <|
      .c (stfy 2 Tryz.underlying26 (fun wz ho => HJ.out wz (HO4.out.trans ho))) <|
      .c stpy <|
      .c (stfy 3 Tryz.underlying27 (fun wz ho => HJ.out wz (HO4.out.trans ho))) <|
      .c stpy <|
      .c stpy <|
      .c (stfy 4 Tryz.underlying28 (fun wz ho => HJ.out wz (HO4.out.trans ho))) <|
      .c (stCy (args := fun t => #[gv P Q G H a m cap, .int .u64 (expI P Q G x), .slice bi l ci, .slice bo l co, .slice bρ l cρ]) old_R Tryz.func15 fun t wx hR hd => ?_) <|
      .c (stxy fun t wx hR hd => ⟨t 11, by kernel_rfl, hd 11 (by kernel_rfl)⟩) <|
      .c (stxy fun t wx hR hd => ?_) <|
      .c (stzy fun t wx hR hd => ?_) <|
      .c (stxy fun t wx hR hd => ⟨t 13, by kernel_rfl, hd 13 (by kernel_rfl)⟩) <|
      .c stpy .n
    · exact (HMx.out wx ((HW0.out.trans HO4.out).trans hR)).mono fun r w' ⟨o, b, e, hb⟩ => ⟨_, e, o, b, rfl, hb⟩
    · obtain ⟨b, e, hb⟩ : ∃ b, t 12 = .tuple #[.slice b l l, .bool true] ∧ BoxF wx b l (mixC P Q G (expI P Q G x) C O Rh) := hd 12 (by kernel_rfl)
      exact ⟨_, run_extract8 (Eq.trans (b := t 12) (by kernel_rfl) e) rfl, b, rfl, hb⟩
    · obtain ⟨b, e, hb⟩ : ∃ b, t 12 = .tuple #[.slice b l l, .bool true] ∧ BoxF wx b l (mixC P Q G (expI P Q G x) C O Rh) := hd 12 (by kernel_rfl)
      exact run_extract8 (Eq.trans (b := t 12) (by kernel_rfl) e) rfl
  intro t wk hR hk
  simp only [fill2, Ent2.val, mbE, msE, noE, nsE, List.set_cons_zero, List.set_cons_succ, List.drop_succ_cons, List.drop_zero, List.drop_nil]
  obtain ⟨bm, e15, hbm⟩ : ∃ b, t 15 = .slice b l l ∧ BoxF wk b l (mixC P Q G (expI P Q G x) C O Rh) := hk 15 (by omega)
  rw [e15]
  have HO5 : Hid (Old W wk) := HO4.out.trans hR
  have HBm : Hid (BoxF wk bm l (mixC P Q G (expI P Q G x) C O Rh)) := hbm
  clear e15 hk hR hbm HKe HMx
  obtain ⟨j0, j1, j2, j3, j4, j5, j6, j7, j8⟩ := HJc.out _ HO5.out
  obtain ⟨M, hM⟩ : ∃ M, M = (mixC P Q G (expI P Q G x) C O Rh) := ⟨_, rfl⟩
  have HMu : Hid (∀ i k, U64 (M i k)) := fun i k => by rw [hM]; exact mixC_u64 _ _ _ _ _ _ _ i k
  rw [← hM] at HEq HMi HBm
  clear hM
  go_upto_region 10 with fail
  clear j0 j1 j2 j3 j4 j5 j6 j7 j8
  have HXx : Hid (∀ wx, Old wk wx → wx.heap[gb + 1 + 1]? = some (.cells #[.int .u64 x] 22 (0, 0))) := fun wx ho => HX.out wx (HO5.out.trans ho)
  go_loopw [44] (fun iv wx => ∃ i : Nat, iv = .int .i64 (i : Int) ∧ i ≤ l ∧ Hid (Old wk wx)) (fun iv _ => l - (intOf iv).toNat)
  case atStart => exact ⟨0, rfl, Nat.zero_le _, Old.refl _⟩
  case round =>
    obtain ⟨i, rfl, hi, HO⟩ := hrel
    by_cases hlt : i < l
    · rcases HOx.out with h0 | ⟨bx, ox, hqx, _, hrx⟩
      · omega
      have cx := (((HW0.out.trans HO5.out).trans HO.out)).cellOf (hrx i hlt).1
      have hp := HPo.out.2.1 i hlt
      obtain ⟨p, hpe⟩ : ∃ p : Nat, O i = (p : Int) := ⟨(O i).toNat, by omega⟩
      have HPe : Hid ((O i).toNat = p) := by unfold Hid; omega
      rw [hpe] at cx hp
      have hpn : p < l := by omega
      clear hpe hp hrx
      subst hqx
      go_upto_region 13 with fail
      clear cx
      go_loopw [49] (fun iv wx => ∃ k : Nat, iv = .int .i64 (k : Int) ∧ k ≤ 3 ∧ Hid (Old wk wx)) (fun iv _ => 3 - (intOf iv).toNat)
      case atStart => exact ⟨0, rfl, Nat.zero_le _, HO⟩
      case round =>
        obtain ⟨k, rfl, hk, HO2⟩ := hrel
        by_cases hkl : k < 3
        · have k1 : (k : Int) < 3 := by omega
          go_upto_region 15 with fail
          rcases HBm.out with h0 | ⟨mb, mcs, rfl, hmb, hmc⟩
          · omega
          have HMl : Hid (∀ wx, Old wr wx → (loadVar 69 ⟨mb, i * 6 + k * 2, none⟩).run Tryz.prog wx = .ok (pv (M i (2 * k)) (M i (2 * k + 1))) wx) := fun wx ho => by
            have hh := ((HO2.out.trans ho).block _ (obj_lt hmb)).trans hmb
            refine pair_load8 wx mb _ _ _ ?_ ?_
            · rw [cell_of_row _ _ _ _ _ (0, 0) hh, show i * 6 + k * 2 = i * 6 + (2 * k) by omega]; exact (hmc i hlt (2 * k) (by omega)).1
            · rw [cell_of_row _ _ _ _ _ (0, 0) hh, show i * 6 + k * 2 + 1 = i * 6 + (2 * k + 1) by omega]; exact (hmc i hlt (2 * k + 1) (by omega)).1
          rcases HCx.out with h0 | ⟨bc, oc, hqc, _, hrc⟩
          · omega
          have HCl : Hid (∀ wx, Old wr wx → (loadVar 69 ⟨bc, oc + p * 6 + k * 2, none⟩).run Tryz.prog wx = .ok (pv (C p (2 * k)) (C p (2 * k + 1))) wx) := fun wx ho => by
            have ho' := (((HW0.out.trans HO5.out).trans HO2.out).trans ho)
            refine pair_load8 wx bc _ _ _ ?_ ?_
            · rw [show oc + p * 6 + k * 2 = oc + p * 6 + (2 * k) by omega]; exact ho'.cellOf (hrc p hpn (2 * k) (by omega)).1
            · rw [show oc + p * 6 + k * 2 + 1 = oc + p * 6 + (2 * k + 1) by omega]; exact ho'.cellOf (hrc p hpn (2 * k + 1) (by omega)).1
          have HCu : Hid (U64 (C p (2 * k)) ∧ U64 (C p (2 * k + 1))) := ⟨(hrc p hpn (2 * k) (by omega)).2, (hrc p hpn (2 * k + 1) (by omega)).2⟩
          have HIc : Hid (inI P Q (C p (2 * k)) = true) := HBi.out p hpn (2 * k) (by omega)
          have HIm : Hid (inI P Q (M i (2 * k)) = true) := HMi.out i hlt k hkl
          have HE2 : Hid (opI8 P Q x (M i (2 * k)) (M i (2 * k + 1)) = opI8 P Q x (C p (2 * k)) (C p (2 * k + 1))) := by have := HEq.out i hlt k hkl; rwa [HPe.out] at this
          have HMu2 : Hid (U64 (M i (2 * k)) ∧ U64 (M i (2 * k + 1))) := ⟨HMu.out i (2 * k), HMu.out i (2 * k + 1)⟩
          subst hqc
          clear hrc hmc hmb
          generalize M i (2 * k) = mu at *
          generalize M i (2 * k + 1) = mv at *
          generalize C p (2 * k) = cu at *
          generalize C p (2 * k + 1) = cv8 at *
          have HOq : Hid (∀ wx u v, Old wr wx → U64 u → U64 v → inI P Q u = true → Calls Tryz.prog 39 #[pv u v, .pointer (some ⟨gb, 0, none⟩), .pointer (some ⟨gb + 1 + 1, 0, none⟩)] wx (Ret wx (.int .u64 (opI8 P Q x u v)))) := fun wx u v ho hu hv iu => by
            obtain ⟨g0, g1, g2, g3, g4⟩ := HGc.out _ ((HO5.out.trans HO2.out).trans ho)
            exact HOp.out wx u v hu hv iu g0 g1 g2 g3 g4 (cell_of_row _ _ 0 _ _ (0, 0) (HXx.out _ (HO2.out.trans ho)))
          have HJr : Hid (∀ wx, Old wr wx → wx.heap[gb + 1]? = some (.cells (jvc label y (some ⟨bc, oc, none⟩) l ci (some ⟨bx, ox, none⟩) l co bρ l cρ bR nR cR bS nS cS bT nT cT bD nD cD) 33 (0, 0))) := fun wx ho => HJ.out wx ((HO5.out.trans HO2.out).trans ho)
          refine wp_region_tab 18 [.k (.func (.func 39) #[] #[.pointer (some ⟨gb, 0, none⟩), .pointer (some ⟨gb + 1 + 1, 0, none⟩)]), .k (.slice (some ⟨mb, 0, none⟩) l l), .k (.int .i64 (i : Int)), .k (.int .i64 (k : Int)), .k (.pointer (some ⟨mb, i * 6, none⟩)), .k (.pointer (some ⟨mb, i * 6 + k * 2, none⟩)), .k (pv mu mv), .k (.int .u64 (opI8 P Q x mu mv)), .k (.func (.func 39) #[] #[.pointer (some ⟨gb, 0, none⟩), .pointer (some ⟨gb + 1 + 1, 0, none⟩)]), .k (.pointer (some ⟨gb + 1, 2, none⟩)), .k (.slice (some ⟨bc, oc, none⟩) l ci), .k (.int .i64 (p : Int)), .k (.int .i64 (k : Int)), .k (.pointer (some ⟨bc, oc + p * 6, none⟩)), .k (.pointer (some ⟨bc, oc + p * 6 + k * 2, none⟩)), .k (pv cu cv8), .k (.int .u64 (opI8 P Q x cu cv8)), .k (.bool false)] (Old wr) (by kernel_rfl) (by kernel_rfl) rfl ((Old.refl _).drew) ?st ?_
          case st =>
            refine .c stp <|
              .c stp <|
              .c stp <|
              .c stp <|
              .c (stj0 (n := l) (c := l) 6 hlt Tryz.underlying26) <|
              .c (saj 2 hkl Tryz.underlying74) <|
              .c (stlv HMl.out) <|
              .c (stKf #[.pointer (some ⟨gb, 0, none⟩), .pointer (some ⟨gb + 1 + 1, 0, none⟩)] old_R Tryz.func39 (fun wy ho => HOq.out wy mu mv ho HMu2.out.1 HMu2.out.2 HIm.out)) <|
              .c stp <|
              .c stp <|
              .c (stf 2 Tryz.underlying26 HJr.out) <|
              .c stp <|
              .c stp <|
              .c (stj (n := l) (c := ci) 6 hpn Tryz.underlying26) <|
              .c (saj 2 hkl Tryz.underlying74) <|
              .c (stlv HCl.out) <|
              .c (stKf #[.pointer (some ⟨gb, 0, none⟩), .pointer (some ⟨gb + 1 + 1, 0, none⟩)] old_R Tryz.func39 (fun wy ho => HOq.out wy cu cv8 ho HCu.out.1 HCu.out.2 HIc.out)) <|
              .c (stv (v' := .bool (opI8 P Q x mu mv != opI8 P Q x cu cv8)) (by rw [HE2.out]; simp)) .n
          intro t wz hR2 hk2
          simp only [fill, Ent.val, List.set_cons_zero, List.set_cons_succ, List.drop_succ_cons, List.drop_zero, List.drop_nil]
          have HOz : Hid (Old wk wz) := HO2.out.trans hR2
          clear hR2 hk2
          go_wp2_with fail
          go_roundw
          case rel => exact ⟨k + 1, idx_next k, by omega, HOz⟩
          case measure => simp [intOf]; omega
        · have hk3 : k = 3 := by omega
          subst hk3
          go_wp2_with fail
          go_roundw
          case rel => exact ⟨i + 1, idx_next i, by omega, HO2⟩
          case measure => simp [intOf]; omega
    · have he : l = i := by omega
      subst he
      go_wp2_with fail
      go_ret
      exact ⟨rfl, (HW0.out.trans HO5.out).trans HO.out⟩

end Go.Proofs.YtlnmjbbpenhdbaaGreat

namespace Go.Proofs.YtlnmjbbpenhdbaaGreat
open Go.RowKit Go.ChangeShapes Go.WideShapes Go.Deep

section
variable {H : Type} {enc : TypeId × Value → H} {P : Program} {w : World}

theorem cell_lt {b off : Nat} {v : Value} (h : w.cell? ⟨b, off, none⟩ = some v) : b < w.heap.size := by
  refine Classical.byContradiction fun hc => ?_
  have : w.heap[b]? = none := by simp; omega
  simp [World.cell?, this] at h

theorem open_facs {t e : TypeId} {fuel : Nat} {v : Value} {x : DataW H × List MemPlace} (ht : P.underlying t = some (.slice e)) (he : P.underlying e = some (.int .u64)) (hc : P.cellsOf e = 1)
    (h : DataW.trod enc P w 0 (fun _ => true) true fuel t [v] = some x) : ∃ (a : Option Addr) (L C : Nat) (F : Nat → Int), v = .slice a L C ∧ L ≤ C ∧ C ≤ maxLen ∧ FacsIn w a L F := by
  rcases open_ints ht he hc h with ⟨hcs, _⟩ | ⟨a, len, cap, zs, hcs, _, hl, hm, hz, _, hcell, hwz⟩
  · exact ⟨none, 0, 0, fun _ => 0, by simpa using hcs, Nat.le_refl _, Nat.zero_le _, Or.inl rfl⟩
  · simp only [if_true] at hz
    refine ⟨some a, len, cap, fun j => zs.getD j 0, by simpa using hcs, hl, hm, ?_⟩
    by_cases h0 : len = 0
    · exact Or.inl h0
    · obtain ⟨b, off, rfl, hc'⟩ := ints_at hcell (by omega)
      refine Or.inr ⟨b, off, rfl, cell_lt (hc' 0 (by omega)), fun j hj => ⟨hc' j (by omega), ?_⟩⟩
      have hj' : j < zs.length := by omega
      have e : zs.getD j 0 = zs[j] := by simp [List.getD, hj']
      show 0 ≤ zs.getD j 0 ∧ zs.getD j 0 ≤ 18446744073709551615
      rw [e]
      exact bounds_u64 (hwz _ (List.getElem_mem hj'))

theorem open_rows {t e u s : TypeId} {f0 f1 f2 : Field} (ht : P.underlying t = some (.slice e)) (he : P.underlying e = some (.struct #[f0, f1, f2])) (hu : P.underlying u = some (.int .u64)) (hs : P.underlying s = some (.slice u))
    (o0 : f0.offset = 0) (o1 : f1.offset = 1) (o2 : f2.offset = 2) (t0 : f0.type = u) (t1 : f1.type = u) (t2 : f2.type = s) (ce : P.cellsOf e = 3) (cu : P.cellsOf u = 1) (cs : P.cellsOf s = 1)
    {a : Option Addr} {n cap : Nat} {d : DataW H} {p : List MemPlace} (h : DataW.Trod enc P w 0 (fun _ => true) true t (.slice a n cap) d p) :
    n ≤ cap ∧ ∃ (N A : Nat → Int) (FA : Nat → Option Addr) (L C : Nat → Nat) (F : Nat → Nat → Int), RowsIn w a n N A FA L C F := by
  obtain ⟨fuel, hf⟩ := h
  rcases open_slice ht hf with ⟨hcs, _⟩ | ⟨a', len, cap', m, k, D, Pl, hcs, _, hl, hm, hmm, _, hx⟩
  · simp [Value.cells] at hcs
    obtain ⟨rfl, rfl, rfl⟩ := hcs
    exact ⟨Nat.le_refl _, fun _ => 0, fun _ => 0, fun _ => none, fun _ => 0, fun _ => 0, fun _ _ => 0, Or.inl rfl⟩
  simp [Value.cells] at hcs
  obtain ⟨rfl, rfl, rfl⟩ := hcs
  simp only [if_true] at hmm
  subst hmm
  refine ⟨hl, ?_⟩
  by_cases h0 : n = 0
  · exact ⟨fun _ => 0, fun _ => 0, fun _ => none, fun _ => 0, fun _ => 0, fun _ _ => 0, Or.inl h0⟩
  rw [ce] at hx
  -- the address is a plain one
  obtain ⟨b, off, spot⟩ := a'
  have hspot : spot = none := by
    obtain ⟨cs0, hc0, _⟩ := hx 0 (by omega)
    obtain ⟨_, hlen, hcell⟩ := World.cells?_some hc0
    have g := hcell 0 (by omega)
    have : ∃ v, cs0[0]? = some v := ⟨cs0[0], by simp⟩
    obtain ⟨v, hv⟩ := this
    rw [hv] at g
    simpa [Addr.add] using World.cell?_spot g
  subst hspot
  have each : ∀ i, i < m → ∃ y : Int × Int × Option Addr × Nat × Nat × (Nat → Int), RowAt w b (off + i * 3) y.1 y.2.1 y.2.2.1 y.2.2.2.1 y.2.2.2.2.1 y.2.2.2.2.2 := by
    intro i hi
    obtain ⟨cs', h1, h2⟩ := hx i hi
    obtain ⟨_, hlen, hcell⟩ := World.cells?_some h1
    obtain ⟨y0, y1, y2, k', _, _, g0, g1, g2⟩ := trod_struct3 he h2
    match cs', hlen with
    | [v0, v1, v2], _ =>
      simp [o0, o1, o2, t0, t1, t2, cu, cs] at g0 g1 g2
      obtain ⟨x0, e0, _, w0⟩ := DataW.trod_int hu g0
      obtain ⟨x1, e1, _, w1⟩ := DataW.trod_int hu g1
      obtain ⟨fa, L, C, F, e2, hL, hC, hF⟩ := open_facs hs hu cu g2
      simp at e0 e1
      subst e0 e1 e2
      have c0 := hcell 0 (by omega)
      have c1 := hcell 1 (by omega)
      have c2 := hcell 2 (by omega)
      simp only [add_plain] at c0 c1 c2
      have b0 := bounds_u64 w0
      have b1 := bounds_u64 w1
      exact ⟨(x0, x1, fa, L, C, F), by simpa using c0, by simpa using c1, by simpa using c2, b0.1, b0.2, b1.1, b1.2, hL, hC, hF⟩
  obtain ⟨y, hy⟩ := choose_lt each
  refine ⟨fun i => (y i).1, fun i => (y i).2.1, fun i => (y i).2.2.1, fun i => (y i).2.2.2.1, fun i => (y i).2.2.2.2.1, fun i => (y i).2.2.2.2.2, Or.inr ⟨b, off, rfl, cell_lt (hy 0 (by omega)).c0, fun i hi => hy i (by omega)⟩⟩

end
end Go.Proofs.YtlnmjbbpenhdbaaGreat
