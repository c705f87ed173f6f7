/-
  What the proof needs, part 25.
-/
import Derived.Test.YtlnmjbbpenhdbaaGreatKp24
import Derived.Test.YtlnmjbbpenhdbaaGreatKp05
import Derived.Test.YtlnmjbbpenhdbaaGreatKp12
import Derived.ChangeKeysEq
import Derived.Test.YtlnmjbbpenhdbaaGreatKp06
import Derived.Test.YtlnmjbbpenhdbaaGreatKp09
import Derived.Test.YtlnmjbbpenhdbaaGreatKp18
namespace Go.Proofs.YtlnmjbbpenhdbaaGreat
set_option linter.unusedSimpArgs false
set_option linter.unusedVariables false
set_option maxRecDepth 100000
set_option maxHeartbeats 32000000
section
open Go.RowKit
abbrev boxV : Value := .agg #[.int .u64 1, .int .u64 4, .int .u64 1, .int .u64 9, .int .u64 4, .int .u64 16]
abbrev boxA : Array Value := #[.int .u64 1, .int .u64 4, .int .u64 1, .int .u64 9, .int .u64 4, .int .u64 16]
theorem info_box : (Tryz.prog.info? 74).map (·.size) = some 6 := by kernel_rfl
theorem box8_any (w : World) : Calls Tryz.prog 47 #[] w (Ret w boxV) := by
 go_enter Tryz.func47, Tryz.ntmps47
 go_wp2_with fail
 exact bodyPost_ret (results_cell_row rfl _ _ _ _ _ (0, 0) _ rfl (heap_alloc_last _ _) Tryz.underlying74 rfl info_box) rfl ⟨rfl, (Old.refl _).alloc _⟩
def rowK {S : TypeId} (n : Nat) (c : Array Value) (T : TypeId) (hT : S ≠ T) : Ent2 (OldT S) := .u (fun v w => ∃ b, v = .slice (some ⟨b, 0, none⟩) n n /\ w.heap[b]? = some (.cells c T (0, 0))) fun _ _ _ ⟨b, e, h⟩ ho => ⟨b, e, ho.row hT h⟩
def shP (base n : Nat) (M : Nat -> Nat -> Int) (A B Pp : Nat -> Int) (nt : Nat) (K : Nat -> Int) (nz : Nat) (Z : Nat -> Int) : Ent2 (OldT 57) := .u (fun v w => ∃ bm cm ba ca bb cb bp cp bk ck bz cz, v = .tuple #[.slice bm n cm, .agg #[.slice ba n ca, .slice bb n cb, .slice bp n cp, .slice bk nt ck, .slice bz nz cz], .bool true] /\ BoxF w bm n M /\ Nums w base (.slice ba n ca) n A /\ Nums w base (.slice bb n cb) n B /\ Nums w base (.slice bp n cp) n Pp /\ Nums w base (.slice bk nt ck) nt K /\ Nums w base (.slice bz nz cz) nz Z)
 fun _ _ _ ⟨bm, cm, ba, ca, bb, cb, bp, cp, bk, ck, bz, cz, e, h, h1, h2, h3, h4, h5⟩ ho => ⟨bm, cm, ba, ca, bb, cb, bp, cp, bk, ck, bz, cz, e, h.oldT (by decide) ho, h1.oldT (by decide) ho, h2.oldT (by decide) ho, h3.oldT (by decide) ho, h4.oldT (by decide) ho, h5.oldT (by decide) ho⟩
def shM (n : Nat) (M : Nat -> Nat -> Int) : Ent2 (OldT 57) := .u (fun v w => ∃ bm cm, v = .slice bm n cm /\ BoxF w bm n M) fun _ _ _ ⟨bm, cm, e, h⟩ ho => ⟨bm, cm, e, h.oldT (by decide) ho⟩
def shA (base n : Nat) (A B Pp : Nat -> Int) (nt : Nat) (K : Nat -> Int) (nz : Nat) (Z : Nat -> Int) : Ent2 (OldT 57) := .u (fun v w => ∃ ba ca bb cb bp cp bk ck bz cz, v = .agg #[.slice ba n ca, .slice bb n cb, .slice bp n cp, .slice bk nt ck, .slice bz nz cz] /\ Nums w base (.slice ba n ca) n A /\ Nums w base (.slice bb n cb) n B /\ Nums w base (.slice bp n cp) n Pp /\ Nums w base (.slice bk nt ck) nt K /\ Nums w base (.slice bz nz cz) nz Z)
 fun _ _ _ ⟨ba, ca, bb, cb, bp, cp, bk, ck, bz, cz, e, h1, h2, h3, h4, h5⟩ ho => ⟨ba, ca, bb, cb, bp, cp, bk, ck, bz, cz, e, h1.oldT (by decide) ho, h2.oldT (by decide) ho, h3.oldT (by decide) ho, h4.oldT (by decide) ho, h5.oldT (by decide) ho⟩
theorem aw_u64 : (∀ k, k < 6 -> U64 (bx8 k)) /\ (∀ k, k < 3 -> U64 (rh8 k)) := by unfold U64; decide
theorem boxs_one {w : World} {b : Nat} (h : w.heap[b]? = some (.cells boxA 74 (0, 0))) : BoxsIn w (some ⟨b, 0, none⟩) 1 awC := Or.inr ⟨b, 0, rfl, obj_lt h, fun j hj k hk => ⟨by
 have : j = 0 := by omega
 subst this
 rw [show 0 + 0 * 6 + k = k by omega, cell_of_row _ _ k _ _ (0, 0) h]
 match k, hk with
 | 0, _ => rfl
 | 1, _ => rfl
 | 2, _ => rfl
 | 3, _ => rfl
 | 4, _ => rfl
 | 5, _ => rfl, aw_u64.1 k hk⟩⟩
theorem ints_one {w : World} {b : Nat} (h : w.heap[b]? = some (.cells #[.int .i64 0] 3 (0, 0))) : IntsIn w (some ⟨b, 0, none⟩) 1 awO := Or.inr ⟨b, 0, rfl, obj_lt h, fun j hj => by
 have : j = 0 := by omega
 subst this
 exact ⟨(cell_of_row _ _ 0 _ _ (0, 0) h).trans rfl, by decide, by decide⟩⟩
theorem rho_one {w : World} {b : Nat} (h : w.heap[b]? = some (.cells #[.int .u64 5, .int .u64 6, .int .u64 7] 63 (0, 0))) : RhoIn w (some ⟨b, 0, none⟩) 1 awR := Or.inr ⟨b, 0, rfl, obj_lt h, fun j hj k hk => ⟨by
 have : j = 0 := by omega
 subst this
 rw [show 0 + 0 * 3 + k = k by omega, cell_of_row _ _ k _ _ (0, 0) h]
 match k, hk with
 | 0, _ => rfl
 | 1, _ => rfl
 | 2, _ => rfl, aw_u64.2 k hk⟩⟩
theorem num_one {w : World} {b : Nat} {x : Int} (hx : U64 x) (h : w.heap[b]? = some (.cells #[.int .u64 x] 22 (0, 0))) : FacsIn w (some ⟨b, 0, none⟩) 1 (fun _ => x) := Or.inr ⟨b, 0, rfl, obj_lt h, fun j hj => by
 have : j = 0 := by omega
 subst this
 exact ⟨(cell_of_row _ _ 0 _ _ (0, 0) h).trans rfl, hx⟩⟩
theorem num_ten {w : World} {b : Nat} (h : w.heap[b]? = some (.cells (madeCells #[Value.int .u64 0] 10) 22 (0, 0))) : FacsIn w (some ⟨b, 0, none⟩) 10 (fun _ => 0) := Or.inr ⟨b, 0, rfl, obj_lt h, fun j hj => by
 refine ⟨?_, (show U64 0 from ⟨by decide, by decide⟩)⟩
 rw [Nat.zero_add, cell_of_row _ _ j _ _ (0, 0) h]
 simp [madeCells, hj, Nat.mod_one]⟩
theorem aw_mx : Mix8 2027 1013 4 9 64 1 awC awO awR (fun _ => 1) (fun _ => 2) (fun _ => 3) := ⟨small_righ, aw_h, by decide +kernel, by decide, by decide, ordB_iff.1 (by decide +kernel), (batB_iff.1 (show batB 2027 1013 1 awC = true by decide +kernel)).2, fun _ _ => (show (0 : Int) <= 1 by decide), fun _ _ => (show (0 : Int) <= 2 by decide), fun _ _ => (show (0 : Int) <= 3 by decide), fun _ _ k hk => (aw_u64.2 k hk).1⟩
theorem run_load_cells {P : Program} (w : World) (b off : Nat) (ty : TypeId) (cs : Array Value) (d : TypeDesc) (hc : ∀ j v, cs[j]? = some v -> w.cell? ⟨b, off + j, none⟩ = some v) (hu : P.underlying ty = some d) (hd : aggD d = true) (hi : (P.info? ty).map (·.size) = some cs.size) :
  (loadVar ty ⟨b, off, none⟩).run P w = .ok (.agg cs) w := by
 have hl : (loadCells ⟨b, off, none⟩ cs.toList.length).run P w = .ok cs.toList.toArray w :=
  run_loadCells_list (P := P) w ⟨b, off, none⟩ cs.toList (fun j v hv => by
   have hadd : (⟨b, off, none⟩ : Addr).add j = ⟨b, off + j, none⟩ := by unfold Addr.add; split <;> simp_all
   rw [hadd]
   exact hc j v (by simpa using hv))
 obtain ⟨i, hq, hs⟩ := Option.map_eq_some_iff.1 hi
 have hagg : (isAgg ty).run P w = .ok true w := by
  unfold isAgg
  rw [Sem.run_bind, run_underlying hu w]
  cases d <;> simp_all [aggD]
 simp only [Array.length_toList, Array.toArray_toList] at hl
 simp [loadVar, Sem.run_bind, hagg, sizeOf, typeInfo, hq, hs, hl]
theorem stlv {P : Program} {ops : List Oper} {L0 : List Value} {E : List Ent} {R : World -> Prop} {dst : Option Tmp} {ty : TypeId} {pos : String} {after : Array Edge} {guard : Option (Nat × Bool)} {T : TypeId} {x : Operand} {p : Addr} {v : Value} (hc : ∀ wx, R wx -> (loadVar T p).run P wx = .ok v wx) (hg : guardT E ⟨dst, .load T x, ty, pos, after, guard⟩ = some true := by rfl) (hx : ∀ t, Act.eval ⟨(fill ops E t 0 L0).toArray, []⟩ x = .pointer (some p) := by intro _; kernel_rfl) : StepT P ops L0 E R ⟨dst, .load T x, ty, pos, after, guard⟩ (.k v) :=
 stw hg fun t wx hR => by simp only [execOp, hx t, Instr.loadAt, Instr.sureAddr, Sem.run_bind, Sem.run_pure, Result.andThen_ok, hc wx hR]
theorem awake8_any (w : World) : Calls Tryz.prog 12 #[] w (Ret w (.bool true)) := by
 have hmk : ∀ wx : World, (Instr.makeSlice 29 (.int .i64 10) (.int .i64 10)).run Tryz.prog wx = .ok (.slice (some ⟨wx.heap.size, 0, none⟩) 10 10) (wx.alloc (.cells (madeCells #[Value.int .u64 0] 10) 22)) := fun wx => make_run 10 (by omega) wx
 go_enter Tryz.func12, Tryz.ntmps12
 go_upto_region 2 with (go_at_call 46; refine (small4_any _).mono ?_; rintro e w1 ⟨a, FA, rfl, hrow, ho1⟩)
 have HZ := lain1 w1 (gc 2027 1013 4 9 a 5 5) 25
 have HW : Hid (Old w w1) := ho1
 have HG0 := fun w' ho => (HZ.then (W' := w') ho).row 0 (by simp)
 have HOw : Hid (Old w (w1.alloc (.cells (gc 2027 1013 4 9 a 5 5) 25))) := HW.out.trans HZ.old
 clear hrow ho1 HZ HW
 generalize w1.alloc (.cells (gc 2027 1013 4 9 a 5 5) 25) = W at *
 obtain ⟨gb, hgb⟩ : ∃ gb, gb = w1.heap.size := ⟨_, rfl⟩
 have HG : Hid (∀ wx, Old W wx -> wx.heap[gb]? = some (.cells (gc 2027 1013 4 9 a 5 5) 25 (0, 0))) := by rw [hgb]; exact HG0
 rw [<- hgb]
 clear hgb HG0
 obtain ⟨s, hs⟩ : ∃ s, s = W.heap.size := ⟨_, rfl⟩
 have HD : Hid (∀ wx, Old ((((((W.alloc (.cells #[.int .u64 5, .int .u64 6, .int .u64 7] 63)).alloc (.cells #[.int .u64 1] 22)).alloc (.cells #[.int .u64 2] 22)).alloc (.cells #[.int .u64 3] 22)).alloc (.cells (madeCells #[Value.int .u64 0] 10) 22)).alloc (.cells (dvc (some ⟨s, 0, none⟩) 1 1 (some ⟨s + 1, 0, none⟩) 1 1 (some ⟨s + 1 + 1, 0, none⟩) 1 1 (some ⟨s + 1 + 1 + 1, 0, none⟩) 1 1 (some ⟨s + 1 + 1 + 1 + 1, 0, none⟩) 10 10) 31)) wx -> wx.heap[s]? = some (.cells #[.int .u64 5, .int .u64 6, .int .u64 7] 63 (0, 0)) /\ wx.heap[s + 1]? = some (.cells #[.int .u64 1] 22 (0, 0)) /\ wx.heap[s + 1 + 1]? = some (.cells #[.int .u64 2] 22 (0, 0)) /\ wx.heap[s + 1 + 1 + 1]? = some (.cells #[.int .u64 3] 22 (0, 0)) /\ wx.heap[s + 1 + 1 + 1 + 1]? = some (.cells (madeCells #[Value.int .u64 0] 10) 22 (0, 0)) /\ wx.heap[s + 1 + 1 + 1 + 1 + 1]? = some (.cells (dvc (some ⟨s, 0, none⟩) 1 1 (some ⟨s + 1, 0, none⟩) 1 1 (some ⟨s + 1 + 1, 0, none⟩) 1 1 (some ⟨s + 1 + 1 + 1, 0, none⟩) 1 1 (some ⟨s + 1 + 1 + 1 + 1, 0, none⟩) 10 10) 31 (0, 0))) := fun wx ho => by
  subst hs
  have L := ((((((Lain.nil W).add (by simp) #[.int .u64 5, .int .u64 6, .int .u64 7] 63).add (by simp) #[.int .u64 1] 22).add (by simp) #[.int .u64 2] 22).add (by simp) #[.int .u64 3] 22).add (by simp) (madeCells #[Value.int .u64 0] 10) 22).add (by simp) (dvc (some ⟨W.heap.size, 0, none⟩) 1 1 (some ⟨W.heap.size + 1, 0, none⟩) 1 1 (some ⟨W.heap.size + 1 + 1, 0, none⟩) 1 1 (some ⟨W.heap.size + 1 + 1 + 1, 0, none⟩) 1 1 (some ⟨W.heap.size + 1 + 1 + 1 + 1, 0, none⟩) 10 10) 31
  have M := L.then ho
  exact ⟨M.row 0 (by simp), M.row 1 (by simp), M.row 2 (by simp), M.row 3 (by simp), M.row 4 (by simp), M.row 5 (by simp)⟩
 have HOd : Hid (Old W ((((((W.alloc (.cells #[.int .u64 5, .int .u64 6, .int .u64 7] 63)).alloc (.cells #[.int .u64 1] 22)).alloc (.cells #[.int .u64 2] 22)).alloc (.cells #[.int .u64 3] 22)).alloc (.cells (madeCells #[Value.int .u64 0] 10) 22)).alloc (.cells (dvc (some ⟨s, 0, none⟩) 1 1 (some ⟨s + 1, 0, none⟩) 1 1 (some ⟨s + 1 + 1, 0, none⟩) 1 1 (some ⟨s + 1 + 1 + 1, 0, none⟩) 1 1 (some ⟨s + 1 + 1 + 1 + 1, 0, none⟩) 10 10) 31))) := ((((((Old.refl W).alloc _).alloc _).alloc _).alloc _).alloc _).alloc _
 go_upto_region 3 with fail
 rw [<- hs]
 clear hs hmk
 generalize (((((W.alloc (.cells #[.int .u64 5, .int .u64 6, .int .u64 7] 63)).alloc (.cells #[.int .u64 1] 22)).alloc (.cells #[.int .u64 2] 22)).alloc (.cells #[.int .u64 3] 22)).alloc (.cells (madeCells #[Value.int .u64 0] 10) 22)).alloc (.cells (dvc (some ⟨s, 0, none⟩) 1 1 (some ⟨s + 1, 0, none⟩) 1 1 (some ⟨s + 1 + 1, 0, none⟩) 1 1 (some ⟨s + 1 + 1 + 1, 0, none⟩) 1 1 (some ⟨s + 1 + 1 + 1 + 1, 0, none⟩) 10 10) 31) = V at *
 have HGv : Hid (∀ wx, Old V wx -> wx.heap[gb]? = some (.cells (gc 2027 1013 4 9 a 5 5) 25 (0, 0))) := fun wx ho => HG.out wx (HOd.out.trans ho)
 have HDv : Hid (∀ wx, Old V wx -> wx.heap[s + 1 + 1 + 1 + 1 + 1]? = some (.cells (dvc (some ⟨s, 0, none⟩) 1 1 (some ⟨s + 1, 0, none⟩) 1 1 (some ⟨s + 1 + 1, 0, none⟩) 1 1 (some ⟨s + 1 + 1 + 1, 0, none⟩) 1 1 (some ⟨s + 1 + 1 + 1 + 1, 0, none⟩) 10 10) 31 (0, 0))) := fun wx ho => (HD.out wx ho).2.2.2.2.2
 have HPv : Hid (∀ wx b b2, Old V wx -> wx.heap[b]? = some (.cells boxA 74 (0, 0)) -> wx.heap[b2]? = some (.cells #[.int .i64 0] 3 (0, 0)) -> Calls Tryz.prog 31 #[gv 2027 1013 4 9 a 5 5, .string ⟨#[97]⟩, .int .u64 64, .slice (some ⟨b, 0, none⟩) 1 1, .slice (some ⟨b2, 0, none⟩) 1 1, dv (some ⟨s, 0, none⟩) 1 1 (some ⟨s + 1, 0, none⟩) 1 1 (some ⟨s + 1 + 1, 0, none⟩) 1 1 (some ⟨s + 1 + 1 + 1, 0, none⟩) 1 1 (some ⟨s + 1 + 1 + 1 + 1, 0, none⟩) 10 10] wx (GivS wx true 1 awM (aF 2027 1013 4 9 awO (fun _ => 1)) (mxB 2027 1013 4 9 [97] 64 1 awC awO awR (fun _ => 1) (fun _ => 2)) (mxP 2027 1013 4 9 [97] 64 1 awC awO awR (fun _ => 1) (fun _ => 2) (fun _ => 3)) 10 (mxK 2027 1013 4 9 [97] 64 1 awC awO awR (fun _ => 1) (fun _ => 2) (fun _ => 3) (fun _ => 0)) 10 (mxZ 2027 1013 4 9 [97] 64 1 awC awO awR (fun _ => 1) (fun _ => 2) (fun _ => 3) (fun _ => 0)))) := fun wx b b2 ho hb hi => by
  obtain ⟨d0, d1, d2, d3, d4, _⟩ := HD.out wx ho
  have h := sprove_any 2027 1013 4 9 a 5 5 [97] 64 (some ⟨b, 0, none⟩) 1 1 awC (some ⟨b2, 0, none⟩) 1 1 awO (some ⟨s, 0, none⟩) 1 1 awR (some ⟨s + 1, 0, none⟩) 1 1 (fun _ => 1) (some ⟨s + 1 + 1, 0, none⟩) 1 1 (fun _ => 2) (some ⟨s + 1 + 1 + 1, 0, none⟩) 1 1 (fun _ => 3) (some ⟨s + 1 + 1 + 1 + 1, 0, none⟩) 10 10 (fun _ => 0) wx four_sm small_righ aw_h ⟨by decide, by decide⟩ (by unfold Bts; decide) (by decide) (by decide) (by decide) (by decide) ⟨by decide, by decide⟩ (by decide) (boxs_one hb) (ints_one hi) (rho_one d0) (num_one ⟨by decide, by decide⟩ d1) (num_one ⟨by decide, by decide⟩ d2) (num_one ⟨by decide, by decide⟩ d3) (num_ten d4)
  rw [aw_mix, aw_drw, show strOfNums [97] = ⟨#[97]⟩ by decide +kernel] at h
  exact h
 have HBx : Hid (∀ wx, Calls Tryz.prog 47 #[] wx (Ret wx boxV)) := fun wx => box8_any wx
 refine wp_region_tab2 (Rl := OldT 57) 14 [.k (gv 2027 1013 4 9 a 5 5), .k (boxV), rowK 1 boxA 74 (by decide), rowK 1 #[.int .i64 0] 3 (by decide), .k (dv (some ⟨s, 0, none⟩) 1 1 (some ⟨s + 1, 0, none⟩) 1 1 (some ⟨s + 1 + 1, 0, none⟩) 1 1 (some ⟨s + 1 + 1 + 1, 0, none⟩) 1 1 (some ⟨s + 1 + 1 + 1 + 1, 0, none⟩) 10 10), shP V.heap.size 1 awM (aF 2027 1013 4 9 awO (fun _ => 1)) (mxB 2027 1013 4 9 [97] 64 1 awC awO awR (fun _ => 1) (fun _ => 2)) (mxP 2027 1013 4 9 [97] 64 1 awC awO awR (fun _ => 1) (fun _ => 2) (fun _ => 3)) 10 (mxK 2027 1013 4 9 [97] 64 1 awC awO awR (fun _ => 1) (fun _ => 2) (fun _ => 3) (fun _ => 0)) 10 (mxZ 2027 1013 4 9 [97] 64 1 awC awO awR (fun _ => 1) (fun _ => 2) (fun _ => 3) (fun _ => 0)), shP V.heap.size 1 awM (aF 2027 1013 4 9 awO (fun _ => 1)) (mxB 2027 1013 4 9 [97] 64 1 awC awO awR (fun _ => 1) (fun _ => 2)) (mxP 2027 1013 4 9 [97] 64 1 awC awO awR (fun _ => 1) (fun _ => 2) (fun _ => 3)) 10 (mxK 2027 1013 4 9 [97] 64 1 awC awO awR (fun _ => 1) (fun _ => 2) (fun _ => 3) (fun _ => 0)) 10 (mxZ 2027 1013 4 9 [97] 64 1 awC awO awR (fun _ => 1) (fun _ => 2) (fun _ => 3) (fun _ => 0)), shM 1 awM, shA V.heap.size 1 (aF 2027 1013 4 9 awO (fun _ => 1)) (mxB 2027 1013 4 9 [97] 64 1 awC awO awR (fun _ => 1) (fun _ => 2)) (mxP 2027 1013 4 9 [97] 64 1 awC awO awR (fun _ => 1) (fun _ => 2) (fun _ => 3)) 10 (mxK 2027 1013 4 9 [97] 64 1 awC awO awR (fun _ => 1) (fun _ => 2) (fun _ => 3) (fun _ => 0)) 10 (mxZ 2027 1013 4 9 [97] 64 1 awC awO awR (fun _ => 1) (fun _ => 2) (fun _ => 3) (fun _ => 0)), .k (.bool true), varE 57 5 V.heap.size, shM 1 awM, putE 57 10 8 V.heap.size, .k (.bool true)] (Old V) (by kernel_rfl) (by kernel_rfl) rfl (by kernel_rfl) ((Old.refl _).drew) ?st ?_
 case st =>
  refine .c (stsy Tryz.underlying25 HGv.out) <| .c (stKy old_R Tryz.func47 (fun wx _ => HBx.out wx)) <| .c (stmy (ob := fun _ => .cells boxA 74) (v := fun s => .slice (some ⟨s, 0, none⟩) 1 1) old_R fun t wx hR hd => ⟨_, rfl, heap_alloc_last _ _⟩) <| .c (stmy (ob := fun _ => .cells #[.int .i64 0] 3) (v := fun s => .slice (some ⟨s, 0, none⟩) 1 1) old_R fun t wx hR hd => ⟨_, rfl, heap_alloc_last _ _⟩) <| .c (stsy Tryz.underlying31 HDv.out) <| .c (stCy (args := fun t => #[gv 2027 1013 4 9 a 5 5, .string ⟨#[97]⟩, .int .u64 64, t 2, t 3, dv (some ⟨s, 0, none⟩) 1 1 (some ⟨s + 1, 0, none⟩) 1 1 (some ⟨s + 1 + 1, 0, none⟩) 1 1 (some ⟨s + 1 + 1 + 1, 0, none⟩) 1 1 (some ⟨s + 1 + 1 + 1 + 1, 0, none⟩) 10 10]) old_R Tryz.func31 fun t wx hR hd => ?_) <| .c (stxy fun t wx hR hd => ⟨t 5, by kernel_rfl, hd 5 (by kernel_rfl)⟩) <| .c (stxy fun t wx hR hd => ?_) <| .c (stxy fun t wx hR hd => ?_) <| .c (stzy fun t wx hR hd => ?_) <| .c (stmy (ob := fun _ => .cells #[.slice none 0 0, .slice none 0 0, .slice none 0 0, .slice none 0 0, .slice none 0 0] 57) (v := fun s => .pointer (some ⟨s, 0, none⟩)) old_R fun t wx hR hd => ⟨_, rfl, hR.size, _, heap_alloc_last _ _, rfl⟩) <| .c (stxy fun t wx hR hd => ⟨t 7, by kernel_rfl, hd 7 (by kernel_rfl)⟩) <| .c (stPy (n := 5) (fun _ _ => True) (fun w g cells h hg => h.setRow hg cells) fun t wx hR hd => ?_) <| .c stpy .n
  · obtain ⟨b, e2, hb⟩ : ∃ b, t 2 = .slice (some ⟨b, 0, none⟩) 1 1 /\ wx.heap[b]? = some (.cells boxA 74 (0, 0)) := hd 2 (by kernel_rfl)
   obtain ⟨b2, e3, hi⟩ : ∃ b, t 3 = .slice (some ⟨b, 0, none⟩) 1 1 /\ wx.heap[b]? = some (.cells #[.int .i64 0] 3 (0, 0)) := hd 3 (by kernel_rfl)
   rw [e2, e3]
   refine (HPv.out wx b b2 hR hb hi).mono ?_
   rintro e w' ⟨ho, bm, cm, va, vb, vp, vk, vz, rfl, h0, h1, h2, h3, h4, h5⟩
   simp only [if_true] at h0 h1 h2 h3 h4 h5
   obtain ⟨ba, ca, rfl⟩ := own_slice8 h1
   obtain ⟨bb, cb, rfl⟩ := own_slice8 h2
   obtain ⟨bp, cp, rfl⟩ := own_slice8 h3
   obtain ⟨bk, ck, rfl⟩ := own_slice8 h4
   obtain ⟨bz, cz, rfl⟩ := own_slice8 h5
   exact ⟨_, rfl, ho, bm, cm, ba, ca, bb, cb, bp, cp, bk, ck, bz, cz, rfl, h0, h1.mono hR.size, h2.mono hR.size, h3.mono hR.size, h4.mono hR.size, h5.mono hR.size⟩
  · obtain ⟨bm, cm, ba, ca, bb, cb, bp, cp, bk, ck, bz, cz, e, hb, N1, N2, N3, N4, N5⟩ : ∃ bm cm ba ca bb cb bp cp bk ck bz cz, t 6 = .tuple #[.slice bm 1 cm, .agg #[.slice ba 1 ca, .slice bb 1 cb, .slice bp 1 cp, .slice bk 10 ck, .slice bz 10 cz], .bool true] /\ BoxF wx bm 1 awM /\ Nums wx V.heap.size (.slice ba 1 ca) 1 (aF 2027 1013 4 9 awO (fun _ => 1)) /\ Nums wx V.heap.size (.slice bb 1 cb) 1 (mxB 2027 1013 4 9 [97] 64 1 awC awO awR (fun _ => 1) (fun _ => 2)) /\ Nums wx V.heap.size (.slice bp 1 cp) 1 (mxP 2027 1013 4 9 [97] 64 1 awC awO awR (fun _ => 1) (fun _ => 2) (fun _ => 3)) /\ Nums wx V.heap.size (.slice bk 10 ck) 10 (mxK 2027 1013 4 9 [97] 64 1 awC awO awR (fun _ => 1) (fun _ => 2) (fun _ => 3) (fun _ => 0)) /\ Nums wx V.heap.size (.slice bz 10 cz) 10 (mxZ 2027 1013 4 9 [97] 64 1 awC awO awR (fun _ => 1) (fun _ => 2) (fun _ => 3) (fun _ => 0)) := hd 6 (by kernel_rfl)
   exact ⟨_, run_extract8 (Eq.trans (b := t 6) (by kernel_rfl) e) rfl, bm, cm, rfl, hb⟩
  · obtain ⟨bm, cm, ba, ca, bb, cb, bp, cp, bk, ck, bz, cz, e, hb, N1, N2, N3, N4, N5⟩ : ∃ bm cm ba ca bb cb bp cp bk ck bz cz, t 6 = .tuple #[.slice bm 1 cm, .agg #[.slice ba 1 ca, .slice bb 1 cb, .slice bp 1 cp, .slice bk 10 ck, .slice bz 10 cz], .bool true] /\ BoxF wx bm 1 awM /\ Nums wx V.heap.size (.slice ba 1 ca) 1 (aF 2027 1013 4 9 awO (fun _ => 1)) /\ Nums wx V.heap.size (.slice bb 1 cb) 1 (mxB 2027 1013 4 9 [97] 64 1 awC awO awR (fun _ => 1) (fun _ => 2)) /\ Nums wx V.heap.size (.slice bp 1 cp) 1 (mxP 2027 1013 4 9 [97] 64 1 awC awO awR (fun _ => 1) (fun _ => 2) (fun _ => 3)) /\ Nums wx V.heap.size (.slice bk 10 ck) 10 (mxK 2027 1013 4 9 [97] 64 1 awC awO awR (fun _ => 1) (fun _ => 2) (fun _ => 3) (fun _ => 0)) /\ Nums wx V.heap.size (.slice bz 10 cz) 10 (mxZ 2027 1013 4 9 [97] 64 1 awC awO awR (fun _ => 1) (fun _ => 2) (fun _ => 3) (fun _ => 0)) := hd 6 (by kernel_rfl)
   exact ⟨_, run_extract8 (Eq.trans (b := t 6) (by kernel_rfl) e) rfl, ba, ca, bb, cb, bp, cp, bk, ck, bz, cz, rfl, N1, N2, N3, N4, N5⟩
  · obtain ⟨bm, cm, ba, ca, bb, cb, bp, cp, bk, ck, bz, cz, e, hb, N1, N2, N3, N4, N5⟩ : ∃ bm cm ba ca bb cb bp cp bk ck bz cz, t 6 = .tuple #[.slice bm 1 cm, .agg #[.slice ba 1 ca, .slice bb 1 cb, .slice bp 1 cp, .slice bk 10 ck, .slice bz 10 cz], .bool true] /\ BoxF wx bm 1 awM /\ Nums wx V.heap.size (.slice ba 1 ca) 1 (aF 2027 1013 4 9 awO (fun _ => 1)) /\ Nums wx V.heap.size (.slice bb 1 cb) 1 (mxB 2027 1013 4 9 [97] 64 1 awC awO awR (fun _ => 1) (fun _ => 2)) /\ Nums wx V.heap.size (.slice bp 1 cp) 1 (mxP 2027 1013 4 9 [97] 64 1 awC awO awR (fun _ => 1) (fun _ => 2) (fun _ => 3)) /\ Nums wx V.heap.size (.slice bk 10 ck) 10 (mxK 2027 1013 4 9 [97] 64 1 awC awO awR (fun _ => 1) (fun _ => 2) (fun _ => 3) (fun _ => 0)) /\ Nums wx V.heap.size (.slice bz 10 cz) 10 (mxZ 2027 1013 4 9 [97] 64 1 awC awO awR (fun _ => 1) (fun _ => 2) (fun _ => 3) (fun _ => 0)) := hd 6 (by kernel_rfl)
   exact run_extract8 (Eq.trans (b := t 6) (by kernel_rfl) e) rfl
  · obtain ⟨ba, ca, bb, cb, bp, cp, bk, ck, bz, cz, e8, _⟩ : ∃ ba ca bb cb bp cp bk ck bz cz, t 8 = .agg #[.slice ba 1 ca, .slice bb 1 cb, .slice bp 1 cp, .slice bk 10 ck, .slice bz 10 cz] /\ _ := hd 8 (by kernel_rfl)
   obtain ⟨b, e10, hb, cs, hcs, hs⟩ : ∃ b, t 10 = .pointer (some ⟨b, 0, none⟩) /\ V.heap.size <= b /\ ∃ cs, wx.heap[b]? = some (.cells cs 57 (0, 0)) /\ cs.size = 5 := hd 10 (by kernel_rfl)
   exact ⟨b, _, cs, e10, e8, hb, hcs, hs, rfl, by simp [Value.oneCell']⟩
 intro t wx hR hk
 simp only [fill2, Ent2.val, rowK, shP, shM, shA, varE, putE, List.set_cons_zero, List.set_cons_succ, List.drop_succ_cons, List.drop_zero, List.drop_nil]
 obtain ⟨bm, cm, e11, hbm⟩ : ∃ bm cm, t 11 = .slice bm 1 cm /\ BoxF wx bm 1 awM := hk 11 (by omega)
 obtain ⟨ps, cs, e12, hps, hrow⟩ : ∃ b cs, [t 10, t 8] = [.pointer (some ⟨b, 0, none⟩), .agg cs] /\ V.heap.size <= b /\ wx.heap[b]? = some (.cells cs 57 (0, 0)) := hk 12 (by omega)
 obtain ⟨ba, ca, bb, cb, bp, cp, bk, ck, bz, cz, e8, N1, N2, N3, N4, N5⟩ : ∃ ba ca bb cb bp cp bk ck bz cz, t 8 = .agg #[.slice ba 1 ca, .slice bb 1 cb, .slice bp 1 cp, .slice bk 10 ck, .slice bz 10 cz] /\ Nums wx V.heap.size (.slice ba 1 ca) 1 (aF 2027 1013 4 9 awO (fun _ => 1)) /\ Nums wx V.heap.size (.slice bb 1 cb) 1 (mxB 2027 1013 4 9 [97] 64 1 awC awO awR (fun _ => 1) (fun _ => 2)) /\ Nums wx V.heap.size (.slice bp 1 cp) 1 (mxP 2027 1013 4 9 [97] 64 1 awC awO awR (fun _ => 1) (fun _ => 2) (fun _ => 3)) /\ Nums wx V.heap.size (.slice bk 10 ck) 10 (mxK 2027 1013 4 9 [97] 64 1 awC awO awR (fun _ => 1) (fun _ => 2) (fun _ => 3) (fun _ => 0)) /\ Nums wx V.heap.size (.slice bz 10 cz) 10 (mxZ 2027 1013 4 9 [97] 64 1 awC awO awR (fun _ => 1) (fun _ => 2) (fun _ => 3) (fun _ => 0)) := hk 8 (by omega)
 rw [e8] at e12
 have e10 : t 10 = .pointer (some ⟨ps, 0, none⟩) := by injection e12
 have ecs : cs = #[.slice ba 1 ca, .slice bb 1 cb, .slice bp 1 cp, .slice bk 10 ck, .slice bz 10 cz] := by
  injection e12 with _ e12
  injection e12 with e12 _
  injection e12 with e12
  exact e12.symm
 subst ecs
 rw [e10, e11]
 clear e8 e10 e11 e12 hk
 have HV : Hid (Old V wx) := hR
 rcases hbm with h0 | ⟨mb, mcs, rfl, hmb, hmc⟩
 · cases h0
 have HM : Hid (∀ wy, Old wx wy -> BoxsIn wy (some ⟨mb, 0, none⟩) 1 awM) := fun wy ho => (BoxF.boxs (Or.inr ⟨mb, mcs, rfl, hmb, hmc⟩)).old ho
 have HMl : Hid (∀ wy, Old wx wy -> (loadVar 74 ⟨mb, 0, none⟩).run Tryz.prog wy = .ok (.agg #[.int .u64 1024, .int .u64 1590, .int .u64 42, .int .u64 1936, .int .u64 672, .int .u64 1583]) wy) := fun wy ho => run_load_cells wy mb 0 _ _ _ (fun j v hv => by
  have hh := (ho.block _ (obj_lt hmb)).trans hmb
  rw [Nat.zero_add, cell_of_row _ _ j _ _ (0, 0) hh]
  have hj : j < 6 := (Array.getElem?_eq_some_iff.1 hv).1
  have := (hmc 0 (by omega) j hj).1
  rw [aw_M j hj, Nat.zero_mul, Nat.zero_add] at this
  rw [this, <- hv]
  match j, hj with
  | 0, _ => rfl
  | 1, _ => rfl
  | 2, _ => rfl
  | 3, _ => rfl
  | 4, _ => rfl
  | 5, _ => rfl) Tryz.underlying74 rfl info_box
 have HSr : Hid (∀ wy, Old wx wy -> wy.heap[ps]? = some (.cells #[.slice ba 1 ca, .slice bb 1 cb, .slice bp 1 cp, .slice bk 10 ck, .slice bz 10 cz] 57 (0, 0))) := fun wy ho => (ho.block _ (obj_lt hrow)).trans hrow
 have HGx : Hid (∀ wy, Old wx wy -> wy.heap[gb]? = some (.cells (gc 2027 1013 4 9 a 5 5) 25 (0, 0))) := fun wy ho => HGv.out wy (HV.out.trans ho)
 have uA : ∀ i, i < 1 -> U64 ((aF 2027 1013 4 9 awO (fun _ => 1)) i) := fun i _ => u64_com8 _ _ _ _ _ _
 have uB : ∀ i, i < 1 -> U64 ((mxB 2027 1013 4 9 [97] 64 1 awC awO awR (fun _ => 1) (fun _ => 2)) i) := fun i _ => u64_com8 _ _ _ _ _ _
 have uP : ∀ i, i < 1 -> U64 ((mxP 2027 1013 4 9 [97] 64 1 awC awO awR (fun _ => 1) (fun _ => 2) (fun _ => 3)) i) := fun i _ => thi_u64 _ _ _ _ _ _ _ _ _ _ _ i
 have uK : ∀ i, i < 10 -> U64 ((mxK 2027 1013 4 9 [97] 64 1 awC awO awR (fun _ => 1) (fun _ => 2) (fun _ => 3) (fun _ => 0)) i) := fun i _ => u64_prod _ _ _
 have uZ : ∀ i, i < 10 -> U64 ((mxZ 2027 1013 4 9 [97] 64 1 awC awO awR (fun _ => 1) (fun _ => 2) (fun _ => 3) (fun _ => 0)) i) := fun i _ => u64_ans _ _ _ _
 obtain ⟨_, _, E1, q1, q2, f1⟩ := N1.facs2 uA
 obtain ⟨_, _, E2, q3, q4, f2⟩ := N2.facs2 uB
 obtain ⟨_, _, E3, _, _, f3⟩ := N3.facs2 uP
 obtain ⟨_, _, E4, _, _, f4⟩ := N4.facs2 uK
 obtain ⟨_, _, E5, _, _, f5⟩ := N5.facs2 uZ
 cases E1
 cases E2
 cases E3
 cases E4
 cases E5
 have HAc : Hid (∀ wy (bi : Option Addr) (C : Nat -> Nat -> Int) (ci co : Nat) r, Old wx wy -> BoxsIn wy bi 1 C -> accG 2027 1013 4 9 [97] 64 1 C 1 awM 1 (aF 2027 1013 4 9 awO (fun _ => 1)) 1 (mxB 2027 1013 4 9 [97] 64 1 awC awO awR (fun _ => 1) (fun _ => 2)) 1 (mxP 2027 1013 4 9 [97] 64 1 awC awO awR (fun _ => 1) (fun _ => 2) (fun _ => 3)) 10 (mxK 2027 1013 4 9 [97] 64 1 awC awO awR (fun _ => 1) (fun _ => 2) (fun _ => 3) (fun _ => 0)) 10 (mxZ 2027 1013 4 9 [97] 64 1 awC awO awR (fun _ => 1) (fun _ => 2) (fun _ => 3) (fun _ => 0)) = r -> Calls Tryz.prog 34 #[gv 2027 1013 4 9 a 5 5, .string ⟨#[97]⟩, .int .u64 64, .slice bi 1 ci, .slice (some ⟨mb, 0, none⟩) 1 co, .agg #[.slice ba 1 ca, .slice bb 1 cb, .slice bp 1 cp, .slice bk 10 ck, .slice bz 10 cz]] wy (Ret wy (.bool r))) := fun wy bi C ci co r ho hb hr => by
  have h := saccept_any 2027 1013 4 9 a 5 5 [97] 64 bi 1 ci C (some ⟨mb, 0, none⟩) 1 co awM ba 1 ca _ bb 1 cb _ bp 1 cp _ bk 10 ck _ bz 10 cz _ wy four_sm small_righ ⟨by decide, by decide⟩ (by unfold Bts; decide) (by decide) (by decide) ⟨q1, q2⟩ ⟨q3, q4⟩ (by decide) hb (HM.out wy ho) (f1.old ho) (f2.old ho) (f3.old ho) (f4.old ho) (f5.old ho)
  rw [show strOfNums [97] = ⟨#[97]⟩ by decide +kernel, hr] at h
  exact h
 have HYes : Hid (accG 2027 1013 4 9 [97] 64 1 awC 1 awM 1 (aF 2027 1013 4 9 awO (fun _ => 1)) 1 (mxB 2027 1013 4 9 [97] 64 1 awC awO awR (fun _ => 1) (fun _ => 2)) 1 (mxP 2027 1013 4 9 [97] 64 1 awC awO awR (fun _ => 1) (fun _ => 2) (fun _ => 3)) 10 (mxK 2027 1013 4 9 [97] 64 1 awC awO awR (fun _ => 1) (fun _ => 2) (fun _ => 3) (fun _ => 0)) 10 (mxZ 2027 1013 4 9 [97] 64 1 awC awO awR (fun _ => 1) (fun _ => 2) (fun _ => 3) (fun _ => 0)) = true) := aw_mx.accG [97] fun k _ => Int.le_refl 0
 have HNo : Hid (accG 2027 1013 4 9 [97] 64 1 awM 1 awM 1 (aF 2027 1013 4 9 awO (fun _ => 1)) 1 (mxB 2027 1013 4 9 [97] 64 1 awC awO awR (fun _ => 1) (fun _ => 2)) 1 (mxP 2027 1013 4 9 [97] 64 1 awC awO awR (fun _ => 1) (fun _ => 2) (fun _ => 3)) 10 (mxK 2027 1013 4 9 [97] 64 1 awC awO awR (fun _ => 1) (fun _ => 2) (fun _ => 3) (fun _ => 0)) 10 (mxZ 2027 1013 4 9 [97] 64 1 awC awO awR (fun _ => 1) (fun _ => 2) (fun _ => 3) (fun _ => 0)) = false) := aw_no _ _ _ _
 clear N1 N2 N3 N4 N5 f1 f2 f3 f4 f5 uA uB uP uK uZ hR hrow hmb hmc hps HPv HGv HDv HD HG q1 q2 q3 q4
 generalize aF 2027 1013 4 9 awO (fun _ => 1) = lA at *
 generalize mxB 2027 1013 4 9 [97] 64 1 awC awO awR (fun _ => 1) (fun _ => 2) = lB at *
 generalize mxP 2027 1013 4 9 [97] 64 1 awC awO awR (fun _ => 1) (fun _ => 2) (fun _ => 3) = lP at *
 generalize mxK 2027 1013 4 9 [97] 64 1 awC awO awR (fun _ => 1) (fun _ => 2) (fun _ => 3) (fun _ => 0) = lK at *
 generalize mxZ 2027 1013 4 9 [97] 64 1 awC awO awR (fun _ => 1) (fun _ => 2) (fun _ => 3) (fun _ => 0) = lZ at *
 go_upto_region 4 with fail
 refine wp_region_tab 30 [.k (.bool true), .k (.bool true), .k (.slice (some ⟨mb, 0, none⟩) 1 cm), .k (.int .i64 (1 : Nat)), .k (.bool true), .k (.bool true), .k (.bool true), .k (.slice (some ⟨mb, 0, none⟩) 1 cm), .k (.pointer (some ⟨mb, 0 * 6, none⟩)), .k (.agg #[.int .u64 1024, .int .u64 1590, .int .u64 42, .int .u64 1936, .int .u64 672, .int .u64 1583]), .k (boxV), .k (.bool true), .k (.bool true), .k (.bool true), .k (gv 2027 1013 4 9 a 5 5), .k (boxV), blkE 1 boxA 74, .k (.slice (some ⟨mb, 0, none⟩) 1 cm), .k (.agg #[.slice ba 1 ca, .slice bb 1 cb, .slice bp 1 cp, .slice bk 10 ck, .slice bz 10 cz]), .k (.bool true), .k (.bool true), .k (.bool true), .k (gv 2027 1013 4 9 a 5 5), .k (.slice (some ⟨mb, 0, none⟩) 1 cm), .k (.slice (some ⟨mb, 0, none⟩) 1 cm), .k (.agg #[.slice ba 1 ca, .slice bb 1 cb, .slice bp 1 cp, .slice bk 10 ck, .slice bz 10 cz]), .k (.bool false), .k (.bool true), .k (.bool true), .k (.bool true)] (Old wx) (by kernel_rfl) (by kernel_rfl) rfl ((Old.refl _).drew) ?st ?_
 case st =>
  refine .c stp <| .c stp <| .c stp <| .c stp <| .c stp <| .c stp <| .c stp <| .c stp <| .c (stj0 (n := 1) (c := cm) 6 (by omega) Tryz.underlying26) <| .c (stlv HMl.out) <| .c (stK old_R Tryz.func47 (fun wx _ => HBx.out wx)) <| .c stp <| .c stp <| .c stp <| .c (sts Tryz.underlying25 HGx.out) <| .c (stK old_R Tryz.func47 (fun wx _ => HBx.out wx)) <| .c (stm (ob := fun t => .cells boxA 74) (v := fun s => .slice (some ⟨s, 0, none⟩) 1 1) old_R fun t wx hR hd => ⟨_, rfl, heap_alloc_last _ _⟩) <| .c stp <| .c (sts Tryz.underlying57 HSr.out) <| .c (stC (args := fun t => #[gv 2027 1013 4 9 a 5 5, .string ⟨#[97]⟩, .int .u64 64, t 16, .slice (some ⟨mb, 0, none⟩) 1 cm, .agg #[.slice ba 1 ca, .slice bb 1 cb, .slice bp 1 cp, .slice bk 10 ck, .slice bz 10 cz]]) old_R Tryz.func34 fun t wy hR hd => ?_) <| .c stp <| .c stp <| .c (sts Tryz.underlying25 HGx.out) <| .c stp <| .c stp <| .c (sts Tryz.underlying57 HSr.out) <| .c (stK old_R Tryz.func34 (fun wy ho => HAc.out wy (some ⟨mb, 0, none⟩) awM cm cm false ho (HM.out wy ho) HNo.out)) <| .c stp <| .c stp <| .c stp .n
  · obtain ⟨b, e, hb⟩ : ∃ b, t 16 = .slice (some ⟨b, 0, none⟩) 1 1 /\ wy.heap[b]? = some (.cells boxA 74 (0, 0)) := hd 16 (by kernel_rfl)
   rw [e]
   exact (HAc.out wy (some ⟨b, 0, none⟩) awC 1 cm true hR (boxs_one hb) HYes.out).mono fun r w' ⟨h, k⟩ => ⟨_, h, k, rfl⟩
 intro t wz hR hk
 simp only [fill, Ent.val, blkE, List.set_cons_zero, List.set_cons_succ, List.drop_succ_cons, List.drop_zero, List.drop_nil]
 have HO9 : Hid (Old w wz) := (HOw.out.trans HOd.out).trans (HV.out.trans hR)
 clear hR hk
 go_wp2_with fail
 go_ret
 exact ⟨rfl, HO9.out⟩
end
section
open Go.RowKit
abbrev jv (label : List Int) (y : Int) (bi : Option Addr) (l ci : Nat) (bo : Option Addr) (no co : Nat) (bρ : Option Addr) (nρ cρ : Nat) (bR : Option Addr) (nR cR : Nat) (bS : Option Addr) (nS cS : Nat) (bT : Option Addr) (nT cT : Nat) (bD : Option Addr) (nD cD : Nat) : Value := .agg #[.string (strOfNums label), .int .u64 y, .slice bi l ci, .slice bo no co, .slice bρ nρ cρ, .slice bR nR cR, .slice bS nS cS, .slice bT nT cT, .slice bD nD cD]
abbrev jvc (label : List Int) (y : Int) (bi : Option Addr) (l ci : Nat) (bo : Option Addr) (no co : Nat) (bρ : Option Addr) (nρ cρ : Nat) (bR : Option Addr) (nR cR : Nat) (bS : Option Addr) (nS cS : Nat) (bT : Option Addr) (nT cT : Nat) (bD : Option Addr) (nD cD : Nat) : Array Value := #[.string (strOfNums label), .int .u64 y, .slice bi l ci, .slice bo no co, .slice bρ nρ cρ, .slice bR nR cR, .slice bS nS cS, .slice bT nT cT, .slice bD nD cD]
def fewR (nρ nR nS nT nD : Nat) : Bool := decide (nρ <= 10 /\ nR <= 10 /\ nS <= 10 /\ nT <= 10 /\ nD <= 80)
def fewJ (ln l no nρ nR nS nT nD : Nat) : Bool := decide (ln <= 100 /\ l <= 10 /\ no <= 10) && fewR nρ nR nS nT nD
theorem fewJ_iff {ln l no nρ nR nS nT nD : Nat} : fewJ ln l no nρ nR nS nT nD = true ↔ (ln <= 100 /\ l <= 10 /\ no <= 10) /\ nρ <= 10 /\ nR <= 10 /\ nS <= 10 /\ nT <= 10 /\ nD <= 80 := by unfold fewJ fewR; simp [Bool.and_eq_true_iff]
theorem few8d_any (bρ : Option Addr) (nρ cρ : Nat) (bR : Option Addr) (nR cR : Nat) (bS : Option Addr) (nS cS : Nat) (bT : Option Addr) (nT cT : Nat) (bD : Option Addr) (nD cD : Nat) (w : World) : Calls Tryz.prog 49 #[dv bρ nρ cρ bR nR cR bS nS cS bT nT cT bD nD cD] w (Ret w (.bool (fewR nρ nR nS nT nD))) := by
 have HZ := lain1 w (dvc bρ nρ cρ bR nR cR bS nS cS bT nT cT bD nD cD) 31
 have HW0 : Hid (Old w (w.alloc (.cells (dvc bρ nρ cρ bR nR cR bS nS cS bT nT cT bD nD cD) 31))) := HZ.old
 have d0 := HZ.cell 0 0 (by simp) rfl
 have d1 := HZ.cell 0 1 (by simp) rfl
 have d2 := HZ.cell 0 2 (by simp) rfl
 have d3 := HZ.cell 0 3 (by simp) rfl
 have d4 := HZ.cell 0 4 (by simp) rfl
 clear HZ
 simp only [Nat.add_zero] at d0 d1 d2 d3 d4
 by_cases h0 : nρ <= 10
 rotate_left
 · have k0 : ¬ (nρ : Int) <= 10 := by omega
  have HV : Hid (fewR nρ nR nS nT nD = false) := by unfold Hid fewR; simp [h0]
  rw [HV.out]
  clear h0
  go_enter Tryz.func49, Tryz.ntmps49
  go_upto_region 1 with fail
  generalize w.alloc (.cells (dvc bρ nρ cρ bR nR cR bS nS cS bT nT cT bD nD cD) 31) = W at *
  go_wp2_with fail
  go_ret
  exact ⟨rfl, HW0.out⟩
 have k0 : (nρ : Int) <= 10 := by omega
 by_cases h1 : nR <= 10
 rotate_left
 · have k1 : ¬ (nR : Int) <= 10 := by omega
  have HV : Hid (fewR nρ nR nS nT nD = false) := by unfold Hid fewR; simp [h0, h1]
  rw [HV.out]
  clear h0
  clear h1
  go_enter Tryz.func49, Tryz.ntmps49
  go_upto_region 1 with fail
  generalize w.alloc (.cells (dvc bρ nρ cρ bR nR cR bS nS cS bT nT cT bD nD cD) 31) = W at *
  go_wp2_with fail
  go_ret
  exact ⟨rfl, HW0.out⟩
 have k1 : (nR : Int) <= 10 := by omega
 by_cases h2 : nS <= 10
 rotate_left
 · have k2 : ¬ (nS : Int) <= 10 := by omega
  have HV : Hid (fewR nρ nR nS nT nD = false) := by unfold Hid fewR; simp [h0, h1, h2]
  rw [HV.out]
  clear h0
  clear h1
  clear h2
  go_enter Tryz.func49, Tryz.ntmps49
  go_upto_region 1 with fail
  generalize w.alloc (.cells (dvc bρ nρ cρ bR nR cR bS nS cS bT nT cT bD nD cD) 31) = W at *
  go_wp2_with fail
  go_ret
  exact ⟨rfl, HW0.out⟩
 have k2 : (nS : Int) <= 10 := by omega
 by_cases h3 : nT <= 10
 rotate_left
 · have k3 : ¬ (nT : Int) <= 10 := by omega
  have HV : Hid (fewR nρ nR nS nT nD = false) := by unfold Hid fewR; simp [h0, h1, h2, h3]
  rw [HV.out]
  clear h0
  clear h1
  clear h2
  clear h3
  go_enter Tryz.func49, Tryz.ntmps49
  go_upto_region 1 with fail
  generalize w.alloc (.cells (dvc bρ nρ cρ bR nR cR bS nS cS bT nT cT bD nD cD) 31) = W at *
  go_wp2_with fail
  go_ret
  exact ⟨rfl, HW0.out⟩
 have k3 : (nT : Int) <= 10 := by omega
 by_cases h4 : nD <= 80
 rotate_left
 · have k4 : ¬ (nD : Int) <= 80 := by omega
  have HV : Hid (fewR nρ nR nS nT nD = false) := by unfold Hid fewR; simp [h0, h1, h2, h3, h4]
  rw [HV.out]
  clear h0
  clear h1
  clear h2
  clear h3
  clear h4
  go_enter Tryz.func49, Tryz.ntmps49
  go_upto_region 1 with fail
  generalize w.alloc (.cells (dvc bρ nρ cρ bR nR cR bS nS cS bT nT cT bD nD cD) 31) = W at *
  go_wp2_with fail
  go_ret
  exact ⟨rfl, HW0.out⟩
 have k4 : (nD : Int) <= 80 := by omega
 have HV : Hid (fewR nρ nR nS nT nD = true) := by unfold Hid fewR; simp [h0, h1, h2, h3, h4]
 rw [HV.out]
 clear h0
 clear h1
 clear h2
 clear h3
 clear h4
 go_enter Tryz.func49, Tryz.ntmps49
 go_upto_region 1 with fail
 generalize w.alloc (.cells (dvc bρ nρ cρ bR nR cR bS nS cS bT nT cT bD nD cD) 31) = W at *
 go_wp2_with fail
 go_ret
 exact ⟨rfl, HW0.out⟩
theorem few8_any (label : List Int) (y : Int) (bi : Option Addr) (l ci : Nat) (bo : Option Addr) (no co : Nat) (bρ : Option Addr) (nρ cρ : Nat) (bR : Option Addr) (nR cR : Nat) (bS : Option Addr) (nS cS : Nat) (bT : Option Addr) (nT cT : Nat) (bD : Option Addr) (nD cD : Nat) (w : World) : Calls Tryz.prog 14 #[jv label y bi l ci bo no co bρ nρ cρ bR nR cR bS nS cS bT nT cT bD nD cD] w (Ret w (.bool (fewJ label.length l no nρ nR nS nT nD))) := by
 have HFw : Hid (∀ wx, Calls Tryz.prog 49 #[dv bρ nρ cρ bR nR cR bS nS cS bT nT cT bD nD cD] wx (Ret wx (.bool (fewR nρ nR nS nT nD)))) := fun wx => few8d_any bρ nρ cρ bR nR cR bS nS cS bT nT cT bD nD cD wx
 have hsz : (strOfNums label).size = label.length := strOfNums_size label
 have HZ := lain1 w (jvc label y bi l ci bo no co bρ nρ cρ bR nR cR bS nS cS bT nT cT bD nD cD) 33
 have HW0 : Hid (Old w (w.alloc (.cells (jvc label y bi l ci bo no co bρ nρ cρ bR nR cR bS nS cS bT nT cT bD nD cD) 33))) := HZ.old
 have d0 := HZ.cell 0 0 (by simp) rfl
 have d2 := HZ.cell 0 2 (by simp) rfl
 have d3 := HZ.cell 0 3 (by simp) rfl
 have d4 := HZ.cell 0 4 (by simp) rfl
 have d5 := HZ.cell 0 5 (by simp) rfl
 have d6 := HZ.cell 0 6 (by simp) rfl
 have d7 := HZ.cell 0 7 (by simp) rfl
 have d8 := HZ.cell 0 8 (by simp) rfl
 clear HZ
 simp only [Nat.add_zero] at d0 d2 d3 d4 d5 d6 d7 d8
 by_cases h0 : label.length <= 100
 rotate_left
 · have k0 : ¬ (label.length : Int) <= 100 := by omega
  have HV : Hid (fewJ label.length l no nρ nR nS nT nD = false) := by unfold Hid fewJ; simp [h0]
  rw [HV.out]
  clear h0
  go_enter Tryz.func14, Tryz.ntmps14
  go_upto_region 1 with fail
  generalize w.alloc (.cells (jvc label y bi l ci bo no co bρ nρ cρ bR nR cR bS nS cS bT nT cT bD nD cD) 33) = W at *
  go_wp2_with fail
  go_ret
  exact ⟨rfl, HW0.out⟩
 have k0 : (label.length : Int) <= 100 := by omega
 by_cases h1 : l <= 10
 rotate_left
 · have k1 : ¬ (l : Int) <= 10 := by omega
  have HV : Hid (fewJ label.length l no nρ nR nS nT nD = false) := by unfold Hid fewJ; simp [h0, h1]
  rw [HV.out]
  clear h0
  clear h1
  go_enter Tryz.func14, Tryz.ntmps14
  go_upto_region 1 with fail
  generalize w.alloc (.cells (jvc label y bi l ci bo no co bρ nρ cρ bR nR cR bS nS cS bT nT cT bD nD cD) 33) = W at *
  go_wp2_with fail
  go_ret
  exact ⟨rfl, HW0.out⟩
 have k1 : (l : Int) <= 10 := by omega
 by_cases h2 : no <= 10
 rotate_left
 · have k2 : ¬ (no : Int) <= 10 := by omega
  have HV : Hid (fewJ label.length l no nρ nR nS nT nD = false) := by unfold Hid fewJ; simp [h0, h1, h2]
  rw [HV.out]
  clear h0
  clear h1
  clear h2
  go_enter Tryz.func14, Tryz.ntmps14
  go_upto_region 1 with fail
  generalize w.alloc (.cells (jvc label y bi l ci bo no co bρ nρ cρ bR nR cR bS nS cS bT nT cT bD nD cD) 33) = W at *
  go_wp2_with fail
  go_ret
  exact ⟨rfl, HW0.out⟩
 have k2 : (no : Int) <= 10 := by omega
 have HV : Hid (fewJ label.length l no nρ nR nS nT nD = fewR nρ nR nS nT nD) := by unfold Hid fewJ; simp [h0, h1, h2]
 rw [HV.out]
 clear h0
 clear h1
 clear h2
 generalize fewR nρ nR nS nT nD = fr at *
 go_enter Tryz.func14, Tryz.ntmps14
 go_upto_region 1 with fail
 generalize w.alloc (.cells (jvc label y bi l ci bo no co bρ nρ cρ bR nR cR bS nS cS bT nT cT bD nD cD) 33) = W at *
 go_wp2_with (go_at_call 49; refine (HFw.out _).mono ?_; rintro e w1 ⟨rfl, o1⟩)
 go_ret
 exact ⟨rfl, HW0.out.trans o1⟩
end
section
open Go Go.RowKit
theorem info_pair9 : (Tryz.prog.info? 69).map (·.size) = some 2 := by kernel_rfl
theorem pair_part (w : World) (c : Array Value) (off : Nat) (x y : Value) (h : c.extract off (off + 2) = #[x, y]) : (part 69 c off).run Tryz.prog w = .ok (.agg #[x, y]) w := by
 obtain ⟨i, hi, hs⟩ := Option.map_eq_some_iff.1 info_pair9
 have hag : (isAgg 69).run Tryz.prog w = .ok true w := by
  unfold isAgg
  rw [Sem.run_bind, run_underlying Tryz.underlying69 w]
  simp
 unfold part
 simp [Sem.run_bind, hag, sizeOf, typeInfo, hi, hs, h]
theorem pair_eq8 (w : World) (d : Nat) (a b a' b' : Int) : (Op.equalIn (d + 1 + 1) 69 (.agg #[.int .u64 a, .int .u64 b]) (.agg #[.int .u64 a', .int .u64 b'])).run Tryz.prog w = .ok (a == a' && b == b') w := by
 rw [run_equalIn_agg w (d + 1) _ _ _ (by kernel_rfl) (by kernel_rfl)]
 have hu := Tryz.underlying69
 have hi := Tryz.underlying22
 unfold Program.fieldsOf
 rw [hu]
 dsimp only
 have hp : ∀ (c : Array Value) (off : Nat) (v : Value) (w : World), c[off]? = some v -> (part 22 c off).run Tryz.prog w = .ok v w := fun c off v w h => by
  have hag : (isAgg 22).run Tryz.prog w = .ok false w := by
   unfold isAgg
   rw [Sem.run_bind, run_underlying hi w]
   simp
  unfold part
  simp [Sem.run_bind, hag, h]
 simp only [Op.eqFields, Sem.run_bind]
 simp [hp, run_equalIn_int _ _ _ _ _ _ _ hi, Sem.run_bind]
 by_cases h1 : a = a' <;> by_cases h2 : b = b' <;> simp [h1, h2]
theorem box_eq8 (w : World) (d : Nat) (a0 a1 a2 a3 a4 a5 b0 b1 b2 b3 b4 b5 : Int) : (Op.equalIn (d + 1 + 1 + 1) 74 (.agg #[.int .u64 a0, .int .u64 a1, .int .u64 a2, .int .u64 a3, .int .u64 a4, .int .u64 a5]) (.agg #[.int .u64 b0, .int .u64 b1, .int .u64 b2, .int .u64 b3, .int .u64 b4, .int .u64 b5])).run Tryz.prog w = .ok (decide (a0 = b0 /\ a1 = b1 /\ a2 = b2 /\ a3 = b3 /\ a4 = b4 /\ a5 = b5)) w := by
 obtain ⟨i, hi, hs⟩ := Option.map_eq_some_iff.1 info_pair9
 have hc : Tryz.prog.cellsOf 69 = 2 := by kernel_rfl
 rw [run_equalIn_array w (d + 1 + 1) _ _ Tryz.underlying74 hi, hc, show List.range 3 = [0, 1, 2] from rfl]
 have p0 := pair_part w #[.int .u64 a0, .int .u64 a1, .int .u64 a2, .int .u64 a3, .int .u64 a4, .int .u64 a5] (0 * 2) (.int .u64 a0) (.int .u64 a1) rfl
 have p1 := pair_part w #[.int .u64 a0, .int .u64 a1, .int .u64 a2, .int .u64 a3, .int .u64 a4, .int .u64 a5] (1 * 2) (.int .u64 a2) (.int .u64 a3) rfl
 have p2 := pair_part w #[.int .u64 a0, .int .u64 a1, .int .u64 a2, .int .u64 a3, .int .u64 a4, .int .u64 a5] (2 * 2) (.int .u64 a4) (.int .u64 a5) rfl
 have q0 := pair_part w #[.int .u64 b0, .int .u64 b1, .int .u64 b2, .int .u64 b3, .int .u64 b4, .int .u64 b5] (0 * 2) (.int .u64 b0) (.int .u64 b1) rfl
 have q1 := pair_part w #[.int .u64 b0, .int .u64 b1, .int .u64 b2, .int .u64 b3, .int .u64 b4, .int .u64 b5] (1 * 2) (.int .u64 b2) (.int .u64 b3) rfl
 have q2 := pair_part w #[.int .u64 b0, .int .u64 b1, .int .u64 b2, .int .u64 b3, .int .u64 b4, .int .u64 b5] (2 * 2) (.int .u64 b4) (.int .u64 b5) rfl
 simp only [Op.eqItems, Sem.run_bind, Sem.run_ite, p0, p1, p2, q0, q1, q2, Result.andThen_ok, pair_eq8, Sem.run_pure]
 by_cases h0 : a0 = b0 <;> by_cases h1 : a1 = b1 <;> by_cases h2 : a2 = b2 <;> by_cases h3 : a3 = b3 <;> by_cases h4 : a4 = b4 <;> by_cases h5 : a5 = b5 <;> simp [h0, h1, h2, h3, h4, h5]
theorem run_neq_box (w : World) (ev : Operand -> Value) (x y : Operand) (dst : Option Tmp) (ty t2 : TypeId) (pos : String) (after : Array Edge) (guard : Option (Nat × Bool)) (a0 a1 a2 a3 a4 a5 b0 b1 b2 b3 b4 b5 : Int) (hx : ev x = .agg #[.int .u64 a0, .int .u64 a1, .int .u64 a2, .int .u64 a3, .int .u64 a4, .int .u64 a5]) (hy : ev y = .agg #[.int .u64 b0, .int .u64 b1, .int .u64 b2, .int .u64 b3, .int .u64 b4, .int .u64 b5]) : (execOp ev ⟨dst, .binOp .neq 74 x y t2, ty, pos, after, guard⟩).run Tryz.prog w = .ok (.value (.bool (!(decide (a0 = b0 /\ a1 = b1 /\ a2 = b2 /\ a3 = b3 /\ a4 = b4 /\ a5 = b5))))) w := by
 have hm : Tryz.prog.eqGuardType Tryz.prog.depth 74 = false := by kernel_rfl
 simp only [execOp, hx, hy]
 go_simp
 rw [show (10000 : Nat) = 9997 + 1 + 1 + 1 from rfl, box_eq8]
 simp
abbrev bx6 (F : Nat -> Int) : Value := .agg #[.int .u64 (F 0), .int .u64 (F 1), .int .u64 (F 2), .int .u64 (F 3), .int .u64 (F 4), .int .u64 (F 5)]
abbrev bx6a (F : Nat -> Int) : Array Value := #[.int .u64 (F 0), .int .u64 (F 1), .int .u64 (F 2), .int .u64 (F 3), .int .u64 (F 4), .int .u64 (F 5)]
def eqb6 (F G : Nat -> Int) : Bool := decide (F 0 = G 0 /\ F 1 = G 1 /\ F 2 = G 2 /\ F 3 = G 3 /\ F 4 = G 4 /\ F 5 = G 5)
theorem eqb6_iff {F G : Nat -> Int} : eqb6 F G = true ↔ ∀ k, k < 6 -> F k = G k := by
 unfold eqb6
 rw [decide_eq_true_iff]
 constructor
 · rintro ⟨h0, h1, h2, h3, h4, h5⟩ k hk
  match k, hk with
  | 0, _ => exact h0
  | 1, _ => exact h1
  | 2, _ => exact h2
  | 3, _ => exact h3
  | 4, _ => exact h4
  | 5, _ => exact h5
 · intro h
  exact ⟨h 0 (by omega), h 1 (by omega), h 2 (by omega), h 3 (by omega), h 4 (by omega), h 5 (by omega)⟩
theorem box_load8 (w : World) (b off : Nat) (F : Nat -> Int) (h : ∀ k, k < 6 -> w.cell? ⟨b, off + k, none⟩ = some (.int .u64 (F k))) : (loadVar 74 ⟨b, off, none⟩).run Tryz.prog w = .ok (bx6 F) w :=
 run_load_cells w b off _ (bx6a F) _ (fun j v hv => by
  match j, (show j < 6 from (Array.getElem?_eq_some_iff.1 hv).1) with
  | 0, _ => exact (h 0 (by omega)).trans hv
  | 1, _ => exact (h 1 (by omega)).trans hv
  | 2, _ => exact (h 2 (by omega)).trans hv
  | 3, _ => exact (h 3 (by omega)).trans hv
  | 4, _ => exact (h 4 (by omega)).trans hv
  | 5, _ => exact (h 5 (by omega)).trans hv) Tryz.underlying74 rfl info_box
theorem stnb {ops : List Oper} {L0 : List Value} {E : List Ent} {R : World -> Prop} {dst : Option Tmp} {ty t2 : TypeId} {pos : String} {after : Array Edge} {guard : Option (Nat × Bool)} {x y : Operand} {r : Bool} (F G : Nat -> Int) (he : (!(eqb6 F G)) = r) (hg : guardT E ⟨dst, .binOp .neq 74 x y t2, ty, pos, after, guard⟩ = some true := by rfl) (hx : ∀ t, Act.eval ⟨(fill ops E t 0 L0).toArray, []⟩ x = bx6 F := by intro _; kernel_rfl) (hy : ∀ t, Act.eval ⟨(fill ops E t 0 L0).toArray, []⟩ y = bx6 G := by intro _; kernel_rfl) : StepT Tryz.prog ops L0 E R ⟨dst, .binOp .neq 74 x y t2, ty, pos, after, guard⟩ (.k (.bool r)) :=
 stw hg fun t wx hR => by rw [run_neq_box wx _ x y dst ty t2 pos after guard _ _ _ _ _ _ _ _ _ _ _ _ (hx t) (hy t)]; unfold eqb6 at he; rw [he]
end
section
open Go.RowKit
def samB (n m : Nat) (C D : Nat -> Nat -> Int) : Bool := decide (n = m) && (List.range n).all fun j => eqb6 (C j) (D j)
theorem samB_iff {n m : Nat} {C D : Nat -> Nat -> Int} : samB n m C D = true ↔ n = m /\ ∀ j, j < n -> ∀ k, k < 6 -> C j k = D j k := by
 unfold samB
 simp only [Bool.and_eq_true_iff, decide_eq_true_eq, List.all_eq_true, List.mem_range, eqb6_iff]
theorem rsame8_any (b1 : Option Addr) (n1 c1 : Nat) (C : Nat -> Nat -> Int) (b2 : Option Addr) (n2 c2 : Nat) (D : Nat -> Nat -> Int) (w : World) (m1 : n1 <= 9223372036854775807) (h1 : BoxsIn w b1 n1 C) (h2 : BoxsIn w b2 n2 D) :
  Calls Tryz.prog 17 #[.slice b1 n1 c1, .slice b2 n2 c2] w (Ret w (.bool (samB n1 n2 C D))) := by
 have HX : Hid (BoxsIn w b1 n1 C) := h1
 have HY : Hid (BoxsIn w b2 n2 D) := h2
 clear h1 h2
 by_cases hn : n1 = n2
 · subst hn
  go_enter Tryz.func17, Tryz.ntmps17
  go_wp2_with fail
  go_loopw [5] (fun iv wx => ∃ i : Nat, iv = .int .i64 (i : Int) /\ i <= n1 /\ Hid (Old w wx) /\ Hid (∀ j, j < i -> ∀ k, k < 6 -> C j k = D j k)) (fun iv _ => n1 - (intOf iv).toNat)
  case atStart => exact ⟨0, rfl, Nat.zero_le _, Old.refl _, fun j hj => by omega⟩
  case round =>
   obtain ⟨i, rfl, hi, HO, HJ⟩ := hrel
   by_cases hlt : i < n1
   · rcases HX.out with h0 | ⟨bx, ox, hqx, _, hrx⟩
    · omega
    rcases HY.out with h0 | ⟨by_, oy, hqy, _, hry⟩
    · omega
    have HLx : Hid (∀ wx, Old wr wx -> (loadVar 74 ⟨bx, ox + i * 6, none⟩).run Tryz.prog wx = .ok (bx6 (C i)) wx) := fun wx ho => box_load8 wx bx _ _ fun k hk => (HO.out.trans ho).cellOf (hrx i hlt k hk).1
    have HLy : Hid (∀ wx, Old wr wx -> (loadVar 74 ⟨by_, oy + i * 6, none⟩).run Tryz.prog wx = .ok (bx6 (D i)) wx) := fun wx ho => box_load8 wx by_ _ _ fun k hk => (HO.out.trans ho).cellOf (hry i hlt k hk).1
    clear hrx hry
    subst hqx hqy
    cases he : eqb6 (C i) (D i) with
    | true =>
     have HM : Hid (∀ k, k < 6 -> C i k = D i k) := eqb6_iff.1 he
     have HE : Hid ((!(eqb6 (C i) (D i))) = false) := by unfold Hid; rw [he]; rfl
     clear he
     go_upto_region 6 with fail
     refine wp_region_tab 9 [.k (.slice (some ⟨bx, ox, none⟩) n1 c1), .k (.int .i64 (i : Int)), .k (.pointer (some ⟨bx, ox + i * 6, none⟩)), .k (bx6 (C i)), .k (.slice (some ⟨by_, oy, none⟩) n1 c2), .k (.int .i64 (i : Int)), .k (.pointer (some ⟨by_, oy + i * 6, none⟩)), .k (bx6 (D i)), .k (.bool false)] (Old wr) (by kernel_rfl) (by kernel_rfl) rfl ((Old.refl _).drew) ?st ?_
     case st =>
      refine .c stp <| .c stp <| .c (stj (n := n1) (c := c1) 6 hlt Tryz.underlying26) <| .c (stlv HLx.out) <| .c stp <| .c stp <| .c (stj (n := n1) (c := c2) 6 hlt Tryz.underlying26) <| .c (stlv HLy.out) <| .c (stnb (C i) (D i) HE.out) .n
     intro t wz hR hk
     simp only [fill, Ent.val, List.set_cons_zero, List.set_cons_succ, List.drop_succ_cons, List.drop_zero, List.drop_nil]
     have HO2 : Hid (Old w wz) := HO.out.trans hR
     clear hR hk
     go_wp2_with fail
     go_roundw
     case rel => exact ⟨i + 1, idx_next i, by omega, HO2, upto_succ HJ.out HM.out⟩
     case measure => simp [intOf]; omega
    | false =>
     have HN : Hid (samB n1 n1 C D = false) := no_of fun hc => by have := eqb6_iff.2 ((samB_iff.1 hc).2 i hlt); rw [he] at this; cases this
     have HE : Hid ((!(eqb6 (C i) (D i))) = true) := by unfold Hid; rw [he]; rfl
     clear he
     go_upto_region 6 with fail
     refine wp_region_tab 9 [.k (.slice (some ⟨bx, ox, none⟩) n1 c1), .k (.int .i64 (i : Int)), .k (.pointer (some ⟨bx, ox + i * 6, none⟩)), .k (bx6 (C i)), .k (.slice (some ⟨by_, oy, none⟩) n1 c2), .k (.int .i64 (i : Int)), .k (.pointer (some ⟨by_, oy + i * 6, none⟩)), .k (bx6 (D i)), .k (.bool true)] (Old wr) (by kernel_rfl) (by kernel_rfl) rfl ((Old.refl _).drew) ?st ?_
     case st =>
      refine .c stp <| .c stp <| .c (stj (n := n1) (c := c1) 6 hlt Tryz.underlying26) <| .c (stlv HLx.out) <| .c stp <| .c stp <| .c (stj (n := n1) (c := c2) 6 hlt Tryz.underlying26) <| .c (stlv HLy.out) <| .c (stnb (C i) (D i) HE.out) .n
     intro t wz hR hk
     simp only [fill, Ent.val, List.set_cons_zero, List.set_cons_succ, List.drop_succ_cons, List.drop_zero, List.drop_nil]
     have HO2 : Hid (Old w wz) := HO.out.trans hR
     clear hR hk
     go_wp2_with fail
     go_ret
     exact ⟨ret_bool HN.out.symm, HO2.out⟩
   · have he : n1 = i := by omega
    subst he
    have HN : Hid (samB n1 n1 C D = true) := samB_iff.2 ⟨rfl, HJ.out⟩
    go_wp2_with fail
    go_ret
    exact ⟨ret_bool HN.out.symm, HO.out⟩
 · have HN : Hid (samB n1 n2 C D = false) := no_of fun hc => hn (samB_iff.1 hc).1
  have k1 : ¬ (n1 : Int) = (n2 : Int) := by omega
  go_enter Tryz.func17, Tryz.ntmps17
  go_wp2_with fail
  go_ret
  exact ⟨ret_bool HN.out.symm, Old.refl _⟩
end
section
open Go Go.RowKit
def lookF : List Oper -> List Ent -> (Nat -> Value) -> Nat -> Value -> Nat -> Value
 | o :: os, e :: es, t, i, x, s => lookF os es t (i + 1) (match o.dst with | some d => bif Nat.beq d s then e.val (t i) else x | none => x) s
 | _, _, _, _, x, _ => x
def evL (ops : List Oper) (E : List Ent) (t : Nat -> Value) (L0 : List Value) : Operand -> Value
 | .tmp s => lookF ops E t 0 (L0.getD s undef) s
 | .const v => Act.eval ⟨#[], []⟩ (.const v)
 | .global g => Act.eval ⟨#[], []⟩ (.global g)
 | .func f => Act.eval ⟨#[], []⟩ (.func f)
theorem evL_func {ops : List Oper} {E : List Ent} {t : Nat -> Value} {L0 : List Value} {f : FuncId} : evL ops E t L0 (.func f) = Act.eval ⟨#[], []⟩ (.func f) := rfl
theorem look_fill (s : Nat) : ∀ (os : List Oper) (es : List Ent) (t : Nat -> Value) (i : Nat) (L : List Value), (∀ k o d, k < es.length -> os[k]? = some o -> o.dst = some d -> d < L.length) -> (fill os es t i L).getD s undef = lookF os es t i (L.getD s undef) s
 | [], _, _, _, _, _ => by simp [fill, lookF]
 | _ :: _, [], _, _, _, _ => by simp [fill, lookF]
 | o :: os, e :: es, t, i, L, h => by
  unfold fill lookF
  have h0 := h 0 o
  cases hd : o.dst with
  | none => exact look_fill s os es t (i + 1) L fun k o' d hk ho hd' => h (k + 1) o' d (by simp; omega) (by simpa using ho) hd'
  | some d =>
   have hdl := h0 d (by simp) rfl hd
   dsimp only
   rw [look_fill s os es t (i + 1) (L.set d (e.val (t i))) fun k o' d' hk ho hd' => by
    have := h (k + 1) o' d' (by simp; omega) (by simpa using ho) hd'
    simpa using this]
   congr 1
   cases hb : Nat.beq d s with
   | true =>
    have hds : d = s := Nat.eq_of_beq_eq_true hb
    subst hds
    simp [List.getD, hdl]
   | false =>
    have hds : ¬ d = s := Nat.ne_of_beq_eq_false hb
    simp [List.getD, List.getElem?_set_ne hds]
theorem evL_eq {ops : List Oper} {E : List Ent} {L0 : List Value} (h : ∀ k o d, k < E.length -> ops[k]? = some o -> o.dst = some d -> d < L0.length) (t : Nat -> Value) : Act.eval ⟨(fill ops E t 0 L0).toArray, []⟩ = evL ops E t L0 := by
 funext x
 cases x with
 | tmp s =>
  have := look_fill s ops E t 0 L0 h
  show (fill ops E t 0 L0).toArray.getD s undef = lookF ops E t 0 (L0.getD s undef) s
  rw [<- this]
  simp [Array.getD_eq_getD_getElem?]
 | const v => rfl
 | global g => rfl
 | func f => rfl
structure StepTz (P : Program) (ops : List Oper) (L0 : List Value) (E : List Ent) (R : World -> Prop) (o : Oper) (e : Ent) : Prop where
 go : ∀ (t : Nat -> Value) (wx : World), R wx -> (∀ k, needs o k = true -> okAt E k (t k) wx) ->
  match guardT E o with
  | some true => PostT P E R e wx ((execOp (evL ops E t L0) o).run P wx)
  | some false => ∀ w, e.ok undef w
  | none => False
def StepsTz (P : Program) (ops : List Oper) (L0 : List Value) (E : List Ent) (R : World -> Prop) : List Oper -> List Ent -> Prop
 | o :: os, e :: es => StepTz P ops L0 E R o e /\ StepsTz P ops L0 E R os es
 | _, [] => True
 | [], _ :: _ => False
theorem StepsTz.c {P : Program} {ops : List Oper} {L0 : List Value} {E : List Ent} {R : World -> Prop} {o : Oper} {os : List Oper} {e : Ent} {es : List Ent} (h : StepTz P ops L0 E R o e) (k : StepsTz P ops L0 E R os es) : StepsTz P ops L0 E R (o :: os) (e :: es) := ⟨h, k⟩
theorem StepsTz.n {P : Program} {ops : List Oper} {L0 : List Value} {E : List Ent} {R : World -> Prop} {os : List Oper} : StepsTz P ops L0 E R os [] := by cases os <;> exact trivial
theorem StepsTz.to {P : Program} {ops : List Oper} {L0 : List Value} {E : List Ent} {R : World -> Prop} (h : ∀ t, Act.eval ⟨(fill ops E t 0 L0).toArray, []⟩ = evL ops E t L0) : ∀ (os : List Oper) (es : List Ent), StepsTz P ops L0 E R os es -> StepsT P ops L0 E R os es
 | o :: os, e :: es, hs => ⟨⟨fun t wx h1 h2 => by rw [h t]; exact hs.1.go t wx h1 h2⟩, StepsTz.to h os es hs.2⟩
 | [], [], _ => trivial
 | _ :: _, [], _ => trivial
 | [], _ :: _, hs => hs.elim
theorem wp_region_tabz {P : Program} {Q : Exit -> Act -> World -> Prop} {id : Nat} {ops : List Oper} {L0 : List Value} {w : World} (n : Nat) (E : List Ent) (R : World -> Prop) (hm : P.follows .mixedOrders = true) (hc : regChk ops n L0.length = true) (hE : E.length = n) (start : R w.drew) (steps : StepsTz P ops L0 E R ops E)
  (fin : ∀ (t : Nat -> Value) (wx : World), R wx -> (∀ k, k < n -> okAt E k (t k) wx) -> wpList P ops.toArray Q (ops.drop n) ⟨(fill ops E t 0 L0).toArray, []⟩ wx) : (Code.region id ops.toArray true).wp P Q ⟨L0.toArray, []⟩ w := by
 refine wp_region_tab n E R hm hc hE start (StepsTz.to (evL_eq fun k o d hk ho hd => ?_) ops E steps) fin
 unfold regChk at hc
 simp only [Bool.and_eq_true, decide_eq_true_eq, List.all_eq_true, List.mem_range] at hc
 have := hc.2 k (by omega)
 rw [ho] at this
 dsimp only at this
 unfold opChk at this
 rw [hd] at this
 simp only [Bool.and_eq_true, decide_eq_true_eq] at this
 exact this.1.1.2.1
section
variable {P : Program} {ops : List Oper} {L0 : List Value} {E : List Ent} {R : World -> Prop} {o : Oper} {e : Ent}
theorem stpz {v : Value} (hg : guardT E o = some true := by rfl) (h : ∀ (t : Nat -> Value) (wx : World), (execOp (evL ops E t L0) o).run P wx = .ok (.value v) wx := by intro _ _; kernel_rfl) : StepTz P ops L0 E R o (.k v) := by
 refine ⟨fun t wx hR _ => ?_⟩
 rw [hg]
 dsimp only
 rw [h t wx]
 exact ⟨hR, fun _ _ h => h, rfl⟩
theorem stvz {v' v : Value} (he : v' = v) (hg : guardT E o = some true := by rfl) (h : ∀ (t : Nat -> Value) (wx : World), (execOp (evL ops E t L0) o).run P wx = .ok (.value v') wx := by intro _ _; kernel_rfl) : StepTz P ops L0 E R o (.k v) := by
 subst he
 exact stpz hg h
theorem stwz {v : Value} (hg : guardT E o = some true) (h : ∀ (t : Nat -> Value) (wx : World), R wx -> (execOp (evL ops E t L0) o).run P wx = .ok (.value v) wx) : StepTz P ops L0 E R o (.k v) := by
 refine ⟨fun t wx hR _ => ?_⟩
 rw [hg]
 dsimp only
 rw [h t wx hR]
 exact ⟨hR, fun _ _ h => h, rfl⟩
theorem stnz (hg : guardT E o = some false := by rfl) : StepTz P ops L0 E R o (.k undef) := by
 refine ⟨fun t wx _ _ => ?_⟩
 rw [hg]
 exact fun _ => rfl
theorem stkz {f : FuncId} {args : Array Value} {v : Value} (hg : guardT E o = some true) (hR : ∀ w w', R w -> Old w w' -> R w') (hx : ∀ (t : Nat -> Value) (wx : World), (execOp (evL ops E t L0) o).run P wx = .ok (.enter f args) wx)
  (h : ∀ (wx : World), R wx -> Calls P f args wx fun r w' => r = .returned v /\ Old wx w') : StepTz P ops L0 E R o (.k v) := by
 refine ⟨fun t wx hRx _ => ?_⟩
 rw [hg]
 dsimp only
 rw [hx t wx]
 exact (h wx hRx).mono fun r w' ⟨hr, ho⟩ => ⟨v, hr, ResT.old hR hRx ho rfl⟩
theorem stmz {ob : (Nat -> Value) -> Obj} {v : Nat -> Value} (hR : ∀ w w', R w -> Old w w' -> R w') (h : ∀ (t : Nat -> Value) (wx : World), R wx -> (∀ k, needs o k = true -> okAt E k (t k) wx) -> e.ok (v wx.heap.size) (wx.alloc (ob t))) (hg : guardT E o = some true := by rfl) (hx : ∀ (t : Nat -> Value) (wx : World), (execOp (evL ops E t L0) o).run P wx = .ok (.value (v wx.heap.size)) (wx.alloc (ob t)) := by intro _ _; kernel_rfl) : StepTz P ops L0 E R o e := by
 refine ⟨fun t wx hRx hd => ?_⟩
 rw [hg]
 dsimp only
 rw [hx t wx]
 exact ResT.old hR hRx ((Old.refl _).alloc _) (h t wx hRx hd)
theorem run_enterz {t : Nat -> Value} {w : World} {f : FuncId} {fn : Func} {c : Code} {oas : Array Operand} {tys : Array TypeId} {dst : Option Tmp} {ty : TypeId} {pos : String} {after : Array Edge} {guard : Option (Nat × Bool)} (hf : P.funcs[f]? = some fn) (hn : (fn.name == "runtime.NumGoroutine") = false) (hb : fn.body = some c) : (execOp (evL ops E t L0) ⟨dst, .call ⟨.value (.func f), oas, tys⟩, ty, pos, after, guard⟩).run P w = .ok (.enter f (oas.map (evL ops E t L0))) w := by
 have h1 : ¬ fn.name = "runtime.NumGoroutine" := by simpa using hn
 simp [execOp, evL_func, callFunc, hf, h1, hb, go_sem]
section
variable {dst : Option Tmp} {ty : TypeId} {pos : String} {after : Array Edge} {guard : Option (Nat × Bool)} {T : TypeId} {x : Operand} {d : TypeDesc}
theorem stlz {p : Addr} {v : Value} (hu : P.underlying T = some d) (hc : ∀ wx, R wx -> wx.cell? p = some v) (hg : guardT E ⟨dst, .load T x, ty, pos, after, guard⟩ = some true := by rfl) (hd : aggD d = false := by rfl) (hx : ∀ t, evL ops E t L0 x = .pointer (some p) := by intro _; kernel_rfl) : StepTz P ops L0 E R ⟨dst, .load T x, ty, pos, after, guard⟩ (.k v) := by
 refine stwz hg fun t wx hR => ?_
 have hag : (isAgg T).run P wx = .ok false wx := by
  unfold isAgg
  rw [Sem.run_bind, run_underlying hu wx]
  cases d <;> simp_all [aggD]
 simp only [execOp, hx t, Instr.loadAt, Instr.sureAddr, loadVar, Sem.run_bind, Sem.run_pure, Result.andThen_ok, hag]
 simp [hc wx hR]
theorem stsz {b : Nat} {cs : Array Value} {tb : TypeId} (hu : P.underlying T = some d) (hc : ∀ wx, R wx -> wx.heap[b]? = some (.cells cs tb (0, 0))) (hg : guardT E ⟨dst, .load T x, ty, pos, after, guard⟩ = some true := by rfl) (hd : aggD d = true := by rfl) (hi : (P.info? T).map (·.size) = some cs.size := by kernel_rfl) (hx : ∀ t, evL ops E t L0 x = .pointer (some ⟨b, 0, none⟩) := by intro _; kernel_rfl) : StepTz P ops L0 E R ⟨dst, .load T x, ty, pos, after, guard⟩ (.k (.agg cs)) := by
 refine stwz hg fun t wx hR => ?_
 simp only [execOp, hx t, Instr.loadAt, Instr.sureAddr, Sem.run_bind, Sem.run_pure, Result.andThen_ok, run_loadVar_row wx b tb T cs (0, 0) d (hc wx hR) hu (by cases d <;> simp_all [aggD]) hi]
theorem stfz {b : Nat} {cs : Array Value} {tb : TypeId} {v : Value} (j : Nat) (hu : P.underlying T = some d) (hc : ∀ wx, R wx -> wx.heap[b]? = some (.cells cs tb (0, 0))) (hg : guardT E ⟨dst, .load T x, ty, pos, after, guard⟩ = some true := by rfl) (hd : aggD d = false := by rfl) (hx : ∀ t, evL ops E t L0 x = .pointer (some ⟨b, j, none⟩) := by intro _; kernel_rfl) (hv : cs[j]? = some v := by rfl) : StepTz P ops L0 E R ⟨dst, .load T x, ty, pos, after, guard⟩ (.k v) :=
 stlz hu (fun wx hR => (cell_of_row _ _ j _ _ (0, 0) (hc wx hR)).trans hv) hg hd hx
end
theorem stjz {dst : Option Tmp} {ty : TypeId} {pos : String} {after : Array Edge} {guard : Option (Nat × Bool)} {T e : TypeId} {x ix : Operand} {b off n c i : Nat} (sz : Nat) (hi : i < n) (hu : P.underlying T = some (.slice e)) (hs : (P.info? e).map (·.size) = some sz := by kernel_rfl) (hg : guardT E ⟨dst, .indexAddr T x ix, ty, pos, after, guard⟩ = some true := by rfl) (hx : ∀ t, evL ops E t L0 x = .slice (some ⟨b, off, none⟩) n c := by intro _; kernel_rfl) (hix : ∀ t, evL ops E t L0 ix = .int .i64 (i : Int) := by intro _; kernel_rfl) : StepTz P ops L0 E R ⟨dst, .indexAddr T x ix, ty, pos, after, guard⟩ (.k (.pointer (some ⟨b, off + i * sz, none⟩))) := by
 refine stwz hg fun t wx _ => ?_
 obtain ⟨z, h1, h2⟩ := Option.map_eq_some_iff.1 hs
 simp only [execOp, hx t, hix t]
 simp [Instr.indexAt, run_underlying hu, asIntOf, sizeOf, typeInfo, h1, h2, hi, go_sem]
theorem stiz {dst : Option Tmp} {ty : TypeId} {pos : String} {after : Array Edge} {guard : Option (Nat × Bool)} {T e : TypeId} {x ix : Operand} {b off n c i : Nat} (hi : i < n) (hu : P.underlying T = some (.slice e)) (hs : (P.info? e).map (·.size) = some 1 := by kernel_rfl) (hg : guardT E ⟨dst, .indexAddr T x ix, ty, pos, after, guard⟩ = some true := by rfl) (hx : ∀ t, evL ops E t L0 x = .slice (some ⟨b, off, none⟩) n c := by intro _; kernel_rfl) (hix : ∀ t, evL ops E t L0 ix = .int .i64 (i : Int) := by intro _; kernel_rfl) : StepTz P ops L0 E R ⟨dst, .indexAddr T x ix, ty, pos, after, guard⟩ (.k (.pointer (some ⟨b, off + i, none⟩))) := by
 have h := stjz (P := P) (R := R) 1 hi hu hs hg hx hix
 rwa [Nat.mul_one] at h
theorem sti0z {dst : Option Tmp} {ty : TypeId} {pos : String} {after : Array Edge} {guard : Option (Nat × Bool)} {T e : TypeId} {x ix : Operand} {b n c i : Nat} (hi : i < n) (hu : P.underlying T = some (.slice e)) (hs : (P.info? e).map (·.size) = some 1 := by kernel_rfl) (hg : guardT E ⟨dst, .indexAddr T x ix, ty, pos, after, guard⟩ = some true := by rfl) (hx : ∀ t, evL ops E t L0 x = .slice (some ⟨b, 0, none⟩) n c := by intro _; kernel_rfl) (hix : ∀ t, evL ops E t L0 ix = .int .i64 (i : Int) := by intro _; kernel_rfl) : StepTz P ops L0 E R ⟨dst, .indexAddr T x ix, ty, pos, after, guard⟩ (.k (.pointer (some ⟨b, i, none⟩))) := by
 have h := stiz (P := P) (R := R) hi hu hs hg hx hix
 rwa [Nat.zero_add] at h
theorem sajz {dst : Option Tmp} {ty : TypeId} {pos : String} {after : Array Edge} {guard : Option (Nat × Bool)} {T e : TypeId} {x ix : Operand} {b off n i : Nat} (sz : Nat) (hi : i < n) (hu : P.underlying T = some (.array n e)) (hs : (P.info? e).map (·.size) = some sz := by kernel_rfl) (hg : guardT E ⟨dst, .indexAddr T x ix, ty, pos, after, guard⟩ = some true := by rfl) (hx : ∀ t, evL ops E t L0 x = .pointer (some ⟨b, off, none⟩) := by intro _; kernel_rfl) (hix : ∀ t, evL ops E t L0 ix = .int .i64 (i : Int) := by intro _; kernel_rfl) : StepTz P ops L0 E R ⟨dst, .indexAddr T x ix, ty, pos, after, guard⟩ (.k (.pointer (some ⟨b, off + i * sz, none⟩))) := by
 refine stwz hg fun t wx _ => ?_
 obtain ⟨z, h1, h2⟩ := Option.map_eq_some_iff.1 hs
 simp only [execOp, hx t, hix t]
 simp [Instr.indexAt, Instr.sureAddr, run_underlying hu, asIntOf, sizeOf, typeInfo, h1, h2, hi, go_sem]
theorem saiz {dst : Option Tmp} {ty : TypeId} {pos : String} {after : Array Edge} {guard : Option (Nat × Bool)} {T e : TypeId} {x ix : Operand} {b off n i : Nat} (hi : i < n) (hu : P.underlying T = some (.array n e)) (hs : (P.info? e).map (·.size) = some 1 := by kernel_rfl) (hg : guardT E ⟨dst, .indexAddr T x ix, ty, pos, after, guard⟩ = some true := by rfl) (hx : ∀ t, evL ops E t L0 x = .pointer (some ⟨b, off, none⟩) := by intro _; kernel_rfl) (hix : ∀ t, evL ops E t L0 ix = .int .i64 (i : Int) := by intro _; kernel_rfl) : StepTz P ops L0 E R ⟨dst, .indexAddr T x ix, ty, pos, after, guard⟩ (.k (.pointer (some ⟨b, off + i, none⟩))) := by
 have h := sajz (P := P) (R := R) 1 hi hu hs hg hx hix
 rwa [Nat.mul_one] at h
theorem stSz {dst : Option Tmp} {ty : TypeId} {pos : String} {after : Array Edge} {guard : Option (Nat × Bool)} {T : TypeId} {x y : Operand} {p : Addr} {v : Value} {e : Ent} (h :  ∀ (t : Nat -> Value) (wx : World), R wx -> (∃ o, wx.cell? p = some o) /\ wx.frozen? p = false /\ ResT E R e wx undef (wx.setCell p v)) (h1 : v.cells = #[v] := by rfl) (h2 : v.oneCell' = true := by rfl) (hs : (P.info? T).map (·.size) = some 1 := by kernel_rfl) (hg : guardT E ⟨dst, .store T x y, ty, pos, after, guard⟩ = some true := by rfl) (hx : ∀ t, evL ops E t L0 x = .pointer (some p) := by intro _; kernel_rfl) (hy : ∀ t, evL ops E t L0 y = v := by intro _; kernel_rfl) : StepTz P ops L0 E R ⟨dst, .store T x y, ty, pos, after, guard⟩ e := by
 refine ⟨fun t wx hR _ => ?_⟩
 obtain ⟨⟨o, ho⟩, hf, hres⟩ := h t wx hR
 obtain ⟨z, hz1, hz2⟩ := Option.map_eq_some_iff.1 hs
 have hadd : p.add 0 = p := by simp [Addr.add]
 have hrun : (execOp (evL ops E t L0) ⟨dst, .store T x y, ty, pos, after, guard⟩).run P wx = .ok .skip (wx.setCell p v) := by
  simp only [execOp, hx t, hy t, Instr.storeAt, Instr.sureAddr, storeVar, h1]
  simp [storeCells, sizeOf, typeInfo, hz1, hz2, hadd, run_store _ _ _ _ _ h2, ho, hf, go_sem]
 rw [hg]
 dsimp only
 rw [hrun]
 exact hres
theorem stKz {f : FuncId} {fn : Func} {c : Code} {oas : Array Operand} {tys : Array TypeId} {dst : Option Tmp} {ty : TypeId} {pos : String} {after : Array Edge} {guard : Option (Nat × Bool)} {args : Array Value} {v : Value} (hR : ∀ w w', R w -> Old w w' -> R w') (hf : P.funcs[f]? = some fn) (h : ∀ (wx : World), R wx -> Calls P f args wx fun r w' => r = .returned v /\ Old wx w') (hg : guardT E ⟨dst, .call ⟨.value (.func f), oas, tys⟩, ty, pos, after, guard⟩ = some true := by rfl) (hn : (fn.name == "runtime.NumGoroutine") = false := by decide) (hb : fn.body = some c := by rfl) (hx : ∀ t, oas.map (evL ops E t L0) = args := by intro _; kernel_rfl) : StepTz P ops L0 E R ⟨dst, .call ⟨.value (.func f), oas, tys⟩, ty, pos, after, guard⟩ (.k v) :=
 stkz hg hR (fun t wx => by rw [run_enterz hf hn hb, hx t]) h
end
end
end Go.Proofs.YtlnmjbbpenhdbaaGreat
