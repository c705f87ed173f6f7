/-
  What the proof needs, part 5.
-/
import Derived.Test.YtlnmjbbpenhdbaaGreatKp04
import Derived.Deep.WholeRow
import Derived.WalkSpells
import Derived.Deep.AppendLies
import Derived.WalkLawsBesides
namespace Go.Proofs.YtlnmjbbpenhdbaaGreat
open Tryz
set_option linter.unusedSimpArgs false
set_option linter.unusedVariables false
set_option maxRecDepth 100000
set_option maxHeartbeats 32000000
section
open Go.RowKit
theorem gover_any (P Q G H : Int) (a : OA) (n cap : Nat) (x y : Int) (w : World) (h4 : Four P Q G H) (hr : Righ P Q G) (hx : U64 x) (hy : inI P Q y = true) :
  Calls prog 99 #[gv P Q G H a n cap, .int .u64 x, .int .u64 y] w fun e w' => e = .returned (.int .u64 (overI P x y)) /\ Old w w' := by
 have hy2 := inI_bd5 hr hy
 have hiv := hr.inv hy
 have hi2 := inI_bd5 hr hiv.2.1
 have HI : Hid (∀ wx, Beh w P Q G H a n cap wx -> Calls prog 138 #[.int .u64 y, .int .u64 P] wx fun e w' => e = .returned (.tuple #[.int .u64 (invI y P), .bool true]) /\ Beh w P Q G H a n cap w') :=
  fun wx hb => (inv_any y P wx hy2.1 hy2.2).mono fun e w' ⟨h, k⟩ => ⟨by rw [h, hiv.1], hb.then ((Old.refl _).draws k)⟩
 have HN' : Hid (∀ wx, Beh w P Q G H a n cap wx -> Calls prog 52 #[gv P Q G H a n cap, .int .u64 (invI y P)] wx fun e w' => e = .returned (.bool true) /\ Beh w P Q G H a n cap w') :=
  fun wx hb => (gin0 P Q G H (invI y P) a n cap wx h4.q0 h4.q1 hi2.2).mono fun e w' ⟨h, k⟩ => ⟨by rw [h, hiv.2.1], hb.then k⟩
 have HM : Hid (∀ wx t, Beh w P Q G H a n cap wx -> Calls prog 64 #[gv P Q G H a n cap, .slice (some ⟨wx.heap.size, 0, none⟩) 2 2] (wx.alloc (.cells #[.int .u64 x, .int .u64 (invI y P)] t)) fun e w' => e = .returned (.int .u64 (overI P x y)) /\ Beh w P Q G H a n cap w') :=
  fun wx t hb => (zce P Q G H a n cap _ 2 2 _ _ h4 hr (by decide) (by decide) (zdR wx x (invI y P) t hx hi2)).mono fun e w' ⟨h, k⟩ => ⟨by rw [h, prod5 hr]; rfl, hb.then (((Old.refl _).alloc _).trans k)⟩
 have HN : Hid (∀ t, Beh w P Q G H a n cap (w.alloc (go P Q G H a n cap t))) := fun t => Beh.new ..
 have HF : Hid (∀ wx, Beh w P Q G H a n cap wx -> G5 wx (w.heap.size) P Q G H (.slice a n cap)) := fun _ hb => ⟨hb.cell rfl, hb.cell rfl, hb.cell rfl, hb.cell rfl, hb.cell rfl⟩
 have HO : Hid (∀ w', Beh w P Q G H a n cap w' -> Old w w') := fun _ h => h.old
 generalize overI P x y = z at *
 generalize invI y P = i at *
 clear h4 hr hx hy hy2 hiv hi2
 go_enter func99, ntmps99
 go_wp2_with (first
  | (go_at_call 138; refine (HI.out _ (by first | exact HN.out _ | assumption)).mono ?_; rintro e w1 ⟨rfl, hb⟩; obtain ⟨d0, d1, d2, d3, d4⟩ := HF.out _ hb)
  | (go_at_call 52; refine (HN'.out _ (by assumption)).mono ?_; rintro e w2 ⟨rfl, hb⟩; obtain ⟨d0, d1, d2, d3, d4⟩ := HF.out _ hb)
  | (go_at_call 64; refine (HM.out _ _ (by assumption)).mono ?_; rintro e w3 ⟨rfl, hb⟩))
 go_ret
 exact ⟨rfl, HO.out _ (by assumption)⟩
theorem gagain_any (P Q G H : Int) (a : OA) (n cap : Nat) (y u v r : Int) (w : World) (h4 : Four P Q G H) (hr : Righ P Q G) (hy : U64 y) (hu : U64 u) (hv : U64 v) (hrr : U64 r) :
  Calls prog 53 #[gv P Q G H a n cap, .int .u64 y, pv u v, .int .u64 r] w fun e w' => e = .returned (pv (mulI u (expI P Q G r) P) (mulI v (expI P Q y r) P)) /\ Old w w' := by
 have HE : Hid (∀ x e wx, U64 x -> U64 e -> Lain w [(gc P Q G H a n cap, 25), (pc u v, 69), (pc 0 0, 69)] wx -> Calls prog 65 #[gv P Q G H a n cap, .int .u64 x, .int .u64 e] wx fun r w' => r = .returned (.int .u64 (expI P Q x e)) /\ Lain w [(gc P Q G H a n cap, 25), (pc u v, 69), (pc 0 0, 69)] w') :=
  fun x e wx hx he hb => (za9 P Q G H x e a n cap wx h4 hr hx.1 hx.2 he.1 he.2).mono fun r w' ⟨h, k⟩ => ⟨h, hb.then k⟩
 have HP : Hid (∀ x y t wx, U64 x -> U64 y -> Lain w [(gc P Q G H a n cap, 25), (pc u v, 69), (pc 0 0, 69)] wx -> Calls prog 64 #[gv P Q G H a n cap, .slice (some ⟨wx.heap.size, 0, none⟩) 2 2] (wx.alloc (.cells #[.int .u64 x, .int .u64 y] t)) fun r w' => r = .returned (.int .u64 (mulI x y P)) /\ Lain w [(gc P Q G H a n cap, 25), (pc u v, 69), (pc 0 0, 69)] w') :=
  fun x y t wx hx hy hb => (zce P Q G H a n cap _ 2 2 _ _ h4 hr (by decide) (by decide) (zdR wx x y t hx hy)).mono fun r w' ⟨h, k⟩ => ⟨by rw [h, prod5 hr], hb.then (((Old.refl _).alloc _).trans k)⟩
 have HD : Hid (∀ wx, Lain w [(gc P Q G H a n cap, 25), (pc u v, 69), (pc 0 0, 69)] wx -> Lain w [(gc P Q G H a n cap, 25), (pc u v, 69), (pc 0 0, 69)] wx.drew) := fun _ h => h.then (Old.refl _).drew
 have HO : Hid (∀ wx, Lain w [(gc P Q G H a n cap, 25), (pc u v, 69), (pc 0 0, 69)] wx -> Old w wx) := fun _ h => h.old
 have hG : U64 G := ⟨h4.g0, h4.g1⟩
 have HF : Hid (∀ w', Lain w [(gc P Q G H a n cap, 25), (pc u v, 69), (pc 0 0, 69)] w' -> w'.cell? ⟨w.heap.size, 0, none⟩ = some (.int .u64 P) /\ w'.cell? ⟨w.heap.size, 1, none⟩ = some (.int .u64 Q) /\ w'.cell? ⟨w.heap.size, 2, none⟩ = some (.int .u64 G) /\ w'.cell? ⟨w.heap.size, 3, none⟩ = some (.int .u64 H) /\ w'.cell? ⟨w.heap.size, 4, none⟩ = some (.slice a n cap) /\ w'.cell? ⟨w.heap.size + 1, 0, none⟩ = some (.int .u64 u) /\ w'.cell? ⟨w.heap.size + 1, 1, none⟩ = some (.int .u64 v)) := fun _ h => ⟨h.cell 0 0 (by simp) rfl, h.cell 0 1 (by simp) rfl, h.cell 0 2 (by simp) rfl, h.cell 0 3 (by simp) rfl, h.cell 0 4 (by simp) rfl, h.cell 1 0 (by simp) rfl, h.cell 1 1 (by simp) rfl⟩
 have HG : Hid (∀ w0, Lain w [(gc P Q G H a n cap, 25), (pc u v, 69), (pc 0 0, 69)] w0 -> ∀ x y, (fun w' => w'.cell? ⟨w.heap.size, 0, none⟩ = some (.int .u64 P) /\ w'.cell? ⟨w.heap.size, 1, none⟩ = some (.int .u64 Q) /\ w'.cell? ⟨w.heap.size, 2, none⟩ = some (.int .u64 G) /\ w'.cell? ⟨w.heap.size, 3, none⟩ = some (.int .u64 H) /\ w'.cell? ⟨w.heap.size, 4, none⟩ = some (.slice a n cap) /\ w'.cell? ⟨w.heap.size + 1, 0, none⟩ = some (.int .u64 u) /\ w'.cell? ⟨w.heap.size + 1, 1, none⟩ = some (.int .u64 v)) ((w0.setCell ⟨w.heap.size + 1 + 1, 0, none⟩ x).setCell ⟨w.heap.size + 1 + 1, 1, none⟩ y)) := fun w0 h x y => by
  obtain ⟨c0, c1, c2, c3, c4, c5, c6⟩ := HF.out _ h
  exact ⟨zaE (by omega) (zaE (by omega) c0), zaE (by omega) (zaE (by omega) c1), zaE (by omega) (zaE (by omega) c2), zaE (by omega) (zaE (by omega) c3), zaE (by omega) (zaE (by omega) c4), zaE (by omega) (zaE (by omega) c5), zaE (by omega) (zaE (by omega) c6)⟩
 have HZ := lain3 w (gc P Q G H a n cap) (pc u v) (pc 0 0) 25 69 69
 clear h4 hr
 go_enter func53, ntmps53
 go_upto_region 1 with fail
 generalize hW : ((w.alloc (.cells (gc P Q G H a n cap) 25)).alloc (.cells (pc u v) 69)).alloc (.cells (pc 0 0) 69) = W at *
 clear hW
 obtain ⟨d0, d1, d2, d3, d4, e0, e1⟩ := HF.out _ HZ
 go_region_held3 (fun w' => w'.cell? ⟨w.heap.size, 0, none⟩ = some (.int .u64 P) /\ w'.cell? ⟨w.heap.size, 1, none⟩ = some (.int .u64 Q) /\ w'.cell? ⟨w.heap.size, 2, none⟩ = some (.int .u64 G) /\ w'.cell? ⟨w.heap.size, 3, none⟩ = some (.int .u64 H) /\ w'.cell? ⟨w.heap.size, 4, none⟩ = some (.slice a n cap) /\ w'.cell? ⟨w.heap.size + 1, 0, none⟩ = some (.int .u64 u) /\ w'.cell? ⟨w.heap.size + 1, 1, none⟩ = some (.int .u64 v)) (first | exact HF.out _ (by assumption) | (go_keep; done) | (and_intros <;> exact zaE (by omega) (zaE (by omega) (by assumption)))) (first
  | (go_at_call 65; refine (HE.out _ _ _ (by assumption) (by assumption) (by first | assumption | exact HD.out _ (by assumption))).mono ?_; rintro e w1 ⟨rfl, hb⟩)
  | (go_at_call 64; refine (HP.out _ _ _ _ (by assumption) (by first | assumption | exact zaz _ _ _ _) (by first | assumption | exact HD.out _ (by assumption))).mono ?_; rintro e w2 ⟨rfl, hb⟩; have hrow := hb.row 2 (by simp); have q0 : _ = some (Value.int .u64 0) := cell_of_row _ _ 0 _ _ (0, 0) hrow; have q1 : _ = some (Value.int .u64 0) := cell_of_row _ _ 1 _ _ (0, 0) hrow; have f0 := zac hrow 0; have f1 := zac hrow 1; clear hrow; obtain ⟨s0, s1, s2, s3, s4, s5, s6⟩ := HF.out _ hb))
 have HL : Hid (Old w w2) := hb.old
 have HR : Hid (w2.heap[w.heap.size + 2]? = some (.cells #[.int .u64 0, .int .u64 0] 69 (0, 0))) := hb.row 2 (by simp)
 go_wp2_with fail
 exact bodyPost_ret (result5 (b := w.heap.size + 2) rfl rfl (zaW HR.out underlying69 zcp)) rfl ⟨rfl, (HL.out.setCell (by simp; omega) _).setCell (by simp; omega) _⟩
end
section
open Go.RowKit
def sN : Nat -> Int | 0 => 5 | 1 => 11 | 2 => 23 | 3 => 1013 | _ => 2027
def sA : Nat -> Int | 0 => 2 | 1 => 2 | 2 => 5 | 3 => 3 | _ => 2
def sL : Nat -> Nat | 0 => 1 | 1 => 2 | 2 => 2 | 3 => 3 | _ => 2
def sF : Nat -> Nat -> Int | 0, _ => 2 | 1, 0 => 2 | 1, _ => 5 | 2, 0 => 2 | 2, _ => 11 | 3, 0 => 2 | 3, 1 => 11 | 3, _ => 23 | _, 0 => 2 | _, _ => 1013
def sP (k : Nat) (i : Nat) : Option Addr := some ⟨k + 1 + i, 0, none⟩
theorem small_right : zbV 2027 1013 4 9 sN sA sF sL 5 = true := by decide +kernel
theorem zdt : Righ 2027 1013 4 := zfl (fun i _ => by unfold sA; split <;> decide) small_right
def sW (w : World) (g : Obj) (t t' : TypeId) : World := ((((((w.alloc g).alloc (.cells #[.int .u64 2] t)).alloc (.cells #[.int .u64 2, .int .u64 5] t)).alloc (.cells #[.int .u64 2, .int .u64 11] t)).alloc (.cells #[.int .u64 2, .int .u64 11, .int .u64 23] t)).alloc (.cells #[.int .u64 2, .int .u64 1013] t)).alloc (.cells #[.int .u64 5, .int .u64 2, .slice (some ⟨w.heap.size + 1, 0, none⟩) 1 1, .int .u64 11, .int .u64 2, .slice (some ⟨w.heap.size + 1 + 1, 0, none⟩) 2 2, .int .u64 23, .int .u64 5, .slice (some ⟨w.heap.size + 1 + 1 + 1, 0, none⟩) 2 2, .int .u64 1013, .int .u64 3, .slice (some ⟨w.heap.size + 1 + 1 + 1 + 1, 0, none⟩) 3 3, .int .u64 2027, .int .u64 2, .slice (some ⟨w.heap.size + 1 + 1 + 1 + 1 + 1, 0, none⟩) 2 2] t')
theorem sW_old (w : World) (g : Obj) (t t' : TypeId) : Old (w.alloc g) (sW w g t t') := ((((((Old.refl _).alloc _).alloc _).alloc _).alloc _).alloc _).alloc _
theorem zdq (w : World) (g : Obj) (t t' : TypeId) : (sW w g t t').heap.size = w.heap.size + 7 := by simp [sW]
theorem zby (w : World) (g : Obj) (t t' : TypeId) (i : Nat) : (sW w g t t').cell? ⟨w.heap.size + 1 + 1 + 1 + 1 + 1 + 1, i, none⟩ = (#[.int .u64 5, .int .u64 2, .slice (some ⟨w.heap.size + 1, 0, none⟩) 1 1, .int .u64 11, .int .u64 2, .slice (some ⟨w.heap.size + 1 + 1, 0, none⟩) 2 2, .int .u64 23, .int .u64 5, .slice (some ⟨w.heap.size + 1 + 1 + 1, 0, none⟩) 2 2, .int .u64 1013, .int .u64 3, .slice (some ⟨w.heap.size + 1 + 1 + 1 + 1, 0, none⟩) 3 3, .int .u64 2027, .int .u64 2, .slice (some ⟨w.heap.size + 1 + 1 + 1 + 1 + 1, 0, none⟩) 2 2] : Array Value)[i]? := by
 unfold sW
 rw [World.cell?_alloc_at _ _ _ _ (by simp)]
theorem sW_0 (w : World) (g : Obj) (t t' : TypeId) (i : Nat) : (sW w g t t').cell? ⟨w.heap.size + 1, i, none⟩ = (#[.int .u64 2] : Array Value)[i]? := by
 unfold sW
 rw [World.cell?_alloc_past _ _ _ (by simp <;> omega), World.cell?_alloc_past _ _ _ (by simp <;> omega), World.cell?_alloc_past _ _ _ (by simp <;> omega), World.cell?_alloc_past _ _ _ (by simp <;> omega), World.cell?_alloc_past _ _ _ (by simp <;> omega), World.cell?_alloc_at _ _ _ _ (by simp)]
theorem sW_1 (w : World) (g : Obj) (t t' : TypeId) (i : Nat) : (sW w g t t').cell? ⟨w.heap.size + 1 + 1, i, none⟩ = (#[.int .u64 2, .int .u64 5] : Array Value)[i]? := by
 unfold sW
 rw [World.cell?_alloc_past _ _ _ (by simp <;> omega), World.cell?_alloc_past _ _ _ (by simp <;> omega), World.cell?_alloc_past _ _ _ (by simp <;> omega), World.cell?_alloc_past _ _ _ (by simp <;> omega), World.cell?_alloc_at _ _ _ _ (by simp)]
theorem sW_2 (w : World) (g : Obj) (t t' : TypeId) (i : Nat) : (sW w g t t').cell? ⟨w.heap.size + 1 + 1 + 1, i, none⟩ = (#[.int .u64 2, .int .u64 11] : Array Value)[i]? := by
 unfold sW
 rw [World.cell?_alloc_past _ _ _ (by simp <;> omega), World.cell?_alloc_past _ _ _ (by simp <;> omega), World.cell?_alloc_past _ _ _ (by simp <;> omega), World.cell?_alloc_at _ _ _ _ (by simp)]
theorem sW_3 (w : World) (g : Obj) (t t' : TypeId) (i : Nat) : (sW w g t t').cell? ⟨w.heap.size + 1 + 1 + 1 + 1, i, none⟩ = (#[.int .u64 2, .int .u64 11, .int .u64 23] : Array Value)[i]? := by
 unfold sW
 rw [World.cell?_alloc_past _ _ _ (by simp <;> omega), World.cell?_alloc_past _ _ _ (by simp <;> omega), World.cell?_alloc_at _ _ _ _ (by simp)]
theorem sW_4 (w : World) (g : Obj) (t t' : TypeId) (i : Nat) : (sW w g t t').cell? ⟨w.heap.size + 1 + 1 + 1 + 1 + 1, i, none⟩ = (#[.int .u64 2, .int .u64 1013] : Array Value)[i]? := by
 unfold sW
 rw [World.cell?_alloc_past _ _ _ (by simp <;> omega), World.cell?_alloc_at _ _ _ _ (by simp)]
theorem sW_rows (w : World) (g : Obj) (t t' : TypeId) : RowsIn (sW w g t t') (some ⟨w.heap.size + 1 + 1 + 1 + 1 + 1 + 1, 0, none⟩) 5 sN sA (sP w.heap.size) sL sL sF := by
 refine Or.inr ⟨_, _, rfl, by rw [zdq]; omega, fun i hi => ?_⟩
 match i, hi with
 | 0, _ =>
  refine ⟨(zby ..).trans rfl, (zby ..).trans rfl, (zby ..).trans rfl, by decide, by decide, by decide, by decide, Nat.le_refl _, by decide, Or.inr ⟨_, _, rfl, by rw [zdq]; omega, fun j hj => ?_⟩⟩
  match j, hj with
  | 0, _ => exact ⟨(sW_0 ..).trans rfl, by decide, by decide⟩
 | 1, _ =>
  refine ⟨(zby ..).trans rfl, (zby ..).trans rfl, (zby ..).trans rfl, by decide, by decide, by decide, by decide, Nat.le_refl _, by decide, Or.inr ⟨_, _, rfl, by rw [zdq]; omega, fun j hj => ?_⟩⟩
  match j, hj with
  | 0, _ => exact ⟨(sW_1 ..).trans rfl, by decide, by decide⟩
  | 1, _ => exact ⟨(sW_1 ..).trans rfl, by decide, by decide⟩
 | 2, _ =>
  refine ⟨(zby ..).trans rfl, (zby ..).trans rfl, (zby ..).trans rfl, by decide, by decide, by decide, by decide, Nat.le_refl _, by decide, Or.inr ⟨_, _, rfl, by rw [zdq]; omega, fun j hj => ?_⟩⟩
  match j, hj with
  | 0, _ => exact ⟨(sW_2 ..).trans rfl, by decide, by decide⟩
  | 1, _ => exact ⟨(sW_2 ..).trans rfl, by decide, by decide⟩
 | 3, _ =>
  refine ⟨(zby ..).trans rfl, (zby ..).trans rfl, (zby ..).trans rfl, by decide, by decide, by decide, by decide, Nat.le_refl _, by decide, Or.inr ⟨_, _, rfl, by rw [zdq]; omega, fun j hj => ?_⟩⟩
  match j, hj with
  | 0, _ => exact ⟨(sW_3 ..).trans rfl, by decide, by decide⟩
  | 1, _ => exact ⟨(sW_3 ..).trans rfl, by decide, by decide⟩
  | 2, _ => exact ⟨(sW_3 ..).trans rfl, by decide, by decide⟩
 | 4, _ =>
  refine ⟨(zby ..).trans rfl, (zby ..).trans rfl, (zby ..).trans rfl, by decide, by decide, by decide, by decide, Nat.le_refl _, by decide, Or.inr ⟨_, _, rfl, by rw [zdq]; omega, fun j hj => ?_⟩⟩
  match j, hj with
  | 0, _ => exact ⟨(sW_4 ..).trans rfl, by decide, by decide⟩
  | 1, _ => exact ⟨(sW_4 ..).trans rfl, by decide, by decide⟩
theorem result_cell {P : Program} {fn : Func} {s : Tmp} {t : TypeId} {tmps : Array Value} {w : World} {b : Nat} {v : Value} (h : fn.results = #[.cell s t]) (hp : tmps[s]? = some (.pointer (some ⟨b, 0, none⟩))) (hl : (loadVar t ⟨b, 0, none⟩).run P w = .ok v w) : (results fn tmps).run P w = .ok v w := by
 simp [results, h, hp, asAddr, hl]
theorem small4_any (w : World) : Calls prog 46 #[] w fun e w' => ∃ a FA, e = .returned (gv 2027 1013 4 9 a 5 5) /\ RowsIn w' a 5 sN sA FA sL sL sF /\ Old w w' := by
 have hi : (prog.info? 25).map (·.size) = some 5 := by kernel_rfl
 go_enter func46, ntmps46
 go_wp2_with fail
 refine bodyPost_ret (v := gv 2027 1013 4 9 (some ⟨w.heap.size + 1 + 1 + 1 + 1 + 1 + 1, 0, none⟩) 5 5) (result_cell (b := w.heap.size) rfl rfl (run_loadVar_row _ _ 25 _ _ (0, 0) _ ?_ underlying25 rfl hi)) rfl ⟨_, _, rfl, sW_rows w _ _ _, ((Old.refl w).alloc _).trans (sW_old w _ _ _)⟩
 refine ((sW_old w _ _ _).block _ (by simp)).trans ?_
 unfold World.alloc
 simp
end
section
open Go.RowKit
theorem group5_any (P Q G H : Int) (a : OA) (n cap : Nat) (N A : NI) (FA : Nat -> Option Addr) (L C : Nat -> Nat) (F : NN) (w : World) (h4 : Four P Q G H) (hin : RowsIn w a n N A FA L C F) :
  Calls prog 13 #[gv P Q G H a n cap] w fun e w' => e = .returned (.bool (fewB L n && zbV P Q G H N A F L n)) /\ Old w w' := by
 have HI : Hid (RowsIn w a n N A FA L C F) := hin
 have HR : Hid (n <= 80 -> ∀ wx, Beh w P Q G H a n cap wx -> Calls prog 48 #[gv P Q G H a n cap] wx fun e w' => e = .returned (.bool (zbV P Q G H N A F L n)) /\ Beh w P Q G H a n cap w') := fun hn wx hb => (rright_any P Q G H a n cap N A FA L C F wx hn (hin.old hb.old) h4.q0 h4.q1 h4.g1 h4.h1).mono fun e w' ⟨h, k⟩ => ⟨h, hb.then k⟩
 have HF : Hid (∀ wx, Beh w P Q G H a n cap wx -> G5 wx (w.heap.size) P Q G H (.slice a n cap)) := fun _ hb => ⟨hb.cell rfl, hb.cell rfl, hb.cell rfl, hb.cell rfl, hb.cell rfl⟩
 clear hin h4
 generalize zbV P Q G H N A F L n = R at *
 by_cases h80 : 80 < n
 ·have HN : Hid (fewB L n = false) := no_of fun hc => by have := (fewB_iff.1 hc).1; omega
  go_enter func13, ntmps13
  go_wp2_with fail
  go_ret
  exact ⟨zad (by rw [HN.out]; rfl), (Old.refl _).alloc _⟩
 go_enter func13, ntmps13
 go_wp2_with fail
 go_loopw [12] (fun iv wx => ∃ i : Nat, iv = .int .i64 (i : Int) /\ i <= n /\ Hid (Beh w P Q G H a n cap wx) /\ Hid (∀ j, j < i -> L j <= 40)) (fun iv _ => n - (intOf iv).toNat)
 case atStart => exact ⟨0, rfl, Nat.zero_le _, Beh.new .., fun j hj => by omega⟩
 case round =>
  obtain ⟨i, rfl, hi, HB, HJ⟩ := hrel
  by_cases hlt : i < n
  ·rcases HI.out.old HB.out.old with h0 | ⟨b, off, rfl, hb, hr⟩
   ·omega
   have r := hr i hlt
   clear hr
   obtain ⟨c0, c1, c2⟩ := (⟨r.c0, r.c1, r.c2⟩ : _ /\ _ /\ _)
   clear r
   by_cases h40 : 40 < L i
   ·have HN : Hid (fewB L n = false) := no_of fun hc => by have := (fewB_iff.1 hc).2 i hlt; omega
    go_wp2_with fail
    go_ret
    exact ⟨zad (by rw [HN.out]; rfl), HB.out.old.alloc _⟩
   ·have HM : Hid (L i <= 40) := Nat.le_of_not_lt h40
    go_wp2_with fail
    go_roundw
    case rel => exact ⟨i + 1, zab i, by omega, HB.out.then ((Old.refl _).alloc _), zav HJ.out HM.out⟩
    case measure => simp [intOf]; omega
  ·have he : i = n := by omega
   subst he
   have HN : Hid (fewB L i = true) := fewB_iff.2 ⟨by omega, HJ.out⟩
   have HR' : Hid (∀ wx, Beh w P Q G H a i cap wx -> Calls prog 48 #[gv P Q G H a i cap] wx fun e w' => e = .returned (.bool R) /\ Beh w P Q G H a i cap w') := HR.out (by omega)
   obtain ⟨d0, d1, d2, d3, d4⟩ := HF.out _ HB.out
   go_wp2_with (go_at_call 48; refine (HR'.out _ HB.out).mono ?_; rintro e w1 ⟨rfl, hb1⟩)
   go_ret
   exact ⟨zad (by rw [HN.out]; rfl), hb1.old⟩
end
section
open Go.RowKit
theorem four_sm : Four 2027 1013 4 9 := ⟨by decide, by decide, by decide, by decide, by decide, by decide, by decide, by decide⟩
end
section
open Go.RowKit
theorem zbj : (prog.info? 22).map (fun i => (i.zero, i.size, i.bytes)) = some (some (.int .u64 0), 1, 8) := by kernel_rfl
def Nums (w : World) (base : Nat) (v : Value) (k : Nat) (F : NI) : Prop := w.ownsRow base 22 1 v k ((List.range k).map fun i => Value.int .u64 (F i))
theorem zaD (w : World) (base : Nat) (F : NI) : Nums w base (.slice none 0 0) 0 F := World.ownsRow_nil _ _ _ _
theorem Nums.old {w w' : World} {base k : Nat} {v : Value} {F : NI} (h : Nums w base v k F) (ho : Old w w') : Nums w' base v k F := by
 refine ⟨h.1, ?_⟩
 rcases h.2 with hn | ⟨g, cap, cur, hv, hb, hg, rest⟩
 ·exact Or.inl hn
 ·exact Or.inr ⟨g, cap, cur, hv, hb, (ho.block g (Array.getElem?_eq_some_iff.1 hg).1).trans hg, rest⟩
theorem Nums.facs {w : World} {base k : Nat} {v : Value} {F : NI} (h : Nums w base v k F) (hF : ∀ i, i < k -> U64 (F i)) : ∃ b c, v = .slice b k c /\ k <= c /\ FacsIn w b k F := by
 have h' := h
 rcases h.2 with ⟨rfl, rfl⟩ | ⟨g, cap, cur, rfl, hb, hg, hc, _⟩
 ·exact ⟨none, 0, rfl, Nat.le_refl _, Or.inl rfl⟩
 ·refine ⟨some ⟨g, 0, none⟩, cap, rfl, hc, Or.inr ⟨g, 0, rfl, (Array.getElem?_eq_some_iff.1 hg).1, fun j hj => ⟨?_, hF j hj⟩⟩⟩
  rw [Nat.zero_add, World.ownsRow.cellAt h' j (by omega)]
  simp [List.getElem?_map, List.getElem?_range hj]
theorem Nums.app {w : World} {base k : Nat} {v : Value} {F : NI} {x : Int} (h : w.ownsRow base 22 1 v (k + 1) ((List.range k).map (fun i => Value.int .u64 (F i)) ++ [.int .u64 x])) (hx : F k = x) : Nums w base v (k + 1) F := by
 unfold Nums
 rw [List.range_succ, List.map_append]
 simpa [hx] using h
theorem Old.grown {a w w' : World} {row : Option Nat} (h : Old a w) (hg : w.grownBy w' row) (hr : ∀ k, row = some k -> a.heap.size <= k) : Old a w' :=
 ⟨hg.os.trans h.os, hg.output.trans h.output, Nat.le_trans h.size hg.size, fun k hk => (hg.block k (Nat.lt_of_lt_of_le hk h.size) (fun e => by have := hr k e.symm; omega)).trans (h.block k hk)⟩
theorem Nums.grown {a w w' : World} {k : Nat} {v : Value} {F : NI} {o : Obj} (h : Nums w a.heap.size v k F) (ho : Old a w) (hg : (w.alloc o).grownBy w' v.ownBlock) : Old a w' :=
 (ho.alloc o).grown hg fun k hk => (World.ownsRow.lt h k hk).1
theorem facs_tail {w : World} {b off l : Nat} {D : NI} (h : FacsIn w (some ⟨b, off, none⟩) l D) : FacsIn w (some ⟨b, off + 1, none⟩) (l - 1) (fun i => D (i + 1)) := by
 rcases h with h | ⟨_, _, hq, hb, hr⟩
 ·exact Or.inl (by omega)
 ·cases hq
  exact Or.inr ⟨b, off + 1, rfl, hb, fun j hj => by have := hr (j + 1) (by omega); rwa [<- Nat.add_assoc, Nat.add_right_comm] at this⟩
theorem FacsIn.u64 {w : World} {b : OA} {l : Nat} {D : NI} (h : FacsIn w b l D) : ∀ i, i < l -> U64 (D i) := fun i hi => by
 rcases h with h0 | ⟨_, _, _, _, h⟩
 ·omega
 ·exact (h i hi).2
structure Pd (w : World) (l : List (Array Value × TypeId)) (b : Nat) (u v : Int) (W : World) : Prop where
 lain : Lain w l W
 far : w.heap.size + l.length <= b
 row : W.heap[b]? = some (.cells #[.int .u64 u, .int .u64 v] 69 (0, 0))
end
section
def imI (P Q : Int) (B W : NI) (n : Nat) : Int := prodI P (fun k => expI P Q (B k) (W k)) n
def pw (B W : NI) : Nat -> Int
 | 0 => 1
 | k + 1 => pw B W k * B k ^ (W k).toNat
theorem Righ.im_cong {P Q G : Int} (h : Righ P Q G) {B W : NI} : ∀ n, (∀ k, k < n -> inI P Q (B k) = true) -> (∀ k, k < n -> 0 <= W k) -> imI P Q B W n % P = pw B W n % P
 | 0, _, _ => rfl
 | n + 1, hB, hW => by
  show mulI (imI P Q B W n) (expI P Q (B n) (W n)) P % P = pw B W n * B n ^ (W n).toNat % P
  exact zbd h.ok (h.im_cong n (fun k hk => hB k (by omega)) (fun k hk => hW k (by omega))) (h.exp_cong (hB n (by omega)) (hW n (by omega)))
theorem Righ.im_in {P Q G : Int} (h : Righ P Q G) {B W : NI} (n : Nat) (hB : ∀ k, k < n -> inI P Q (B k) = true) : inI P Q (imI P Q B W n) = true :=
 h.prod_in n fun k hk => h.exp_in (hB k hk)
theorem Righ.same {P Q G a b : Int} (h : Righ P Q G) (ha : inI P Q a = true) (hb : inI P Q b = true) (he : a % P = b % P) : a = b := by
 rwa [h.self ha, h.self hb] at he
theorem Righ.okq {P Q G : Int} (h : Righ P Q G) : okM Q = true := by
 have := h.q0; have := h.q1
 exact zeY (by omega) (by omega)
theorem exp_mod {P Q x a b : Int} (h : a % Q = b % Q) : expI P Q x a = expI P Q x b := by unfold expI; rw [h]
theorem im_mod {P Q : Int} {B V W : NI} : ∀ n, (∀ k, k < n -> V k % Q = W k % Q) -> imI P Q B V n = imI P Q B W n
 | 0, _ => rfl
 | n + 1, h => by
  show mulI (imI P Q B V n) (expI P Q (B n) (V n)) P = mulI (imI P Q B W n) (expI P Q (B n) (W n)) P
  rw [im_mod n (fun k hk => h k (by omega)), exp_mod (h n (by omega))]
def ansI (Q e w d : Int) : Int := addI d (mulI e w Q) Q
theorem ans_mod {Q e w d : Int} (h : okM Q = true) : ansI Q e w d % Q = (d + e * w) % Q := by
 unfold ansI
 rw [za4 h, zak, zaw h]
 exact zbF rfl (zak _ _)
theorem pw_ans {e : Int} {B W D Z : NI} (he : 0 <= e) : ∀ n, (∀ k, k < n -> 0 <= W k) -> (∀ k, k < n -> 0 <= D k) -> (∀ k, k < n -> Z k = D k + e * W k) -> pw B Z n = pw B D n * pw B W n ^ e.toNat
 | 0, _, _, _ => by show (1 : Int) = 1 * 1 ^ e.toNat; rw [Int.one_pow, Int.one_mul]
 | n + 1, hW, hD, hZ => by
  show pw B Z n * B n ^ (Z n).toNat = pw B D n * B n ^ (D n).toNat * (pw B W n * B n ^ (W n).toNat) ^ e.toNat
  have hw := hW n (by omega)
  have hd := hD n (by omega)
  have hew : 0 <= e * W n := Int.mul_nonneg he hw
  rw [pw_ans he n (fun k hk => hW k (by omega)) (fun k hk => hD k (by omega)) (fun k hk => hZ k (by omega)), hZ n (by omega), Int.toNat_add hd hew, Int.toNat_mul he hw, Int.pow_add, Nat.mul_comm, Int.pow_mul, Int.mul_pow]
  simp only [Int.mul_assoc, Int.mul_comm, Int.mul_left_comm]
theorem Righ.im_ans {P Q G e : Int} (h : Righ P Q G) {B W D : NI} (n : Nat) (hB : ∀ k, k < n -> inI P Q (B k) = true) (hW : ∀ k, k < n -> 0 <= W k) (hD : ∀ k, k < n -> 0 <= D k) (he : 0 <= e) :
  imI P Q B (fun k => ansI Q e (W k) (D k)) n = mulI (imI P Q B D n) (expI P Q (imI P Q B W n) e) P := by
 rw [im_mod (W := fun k => D k + e * W k) n (fun k _ => ans_mod h.okq)]
 refine h.same (h.im_in n hB) (h.mul_in (h.im_in n hB) (h.exp_in (h.im_in n hB))) ?_
 rw [h.im_cong n hB (fun k hk => Int.add_nonneg (hD k hk) (Int.mul_nonneg he (hW k hk))), zbd h.ok (h.im_cong n hB hD) ((h.exp_cong (h.im_in n hB) he).trans (zaT (h.im_cong n hB hW) _)), pw_ans he n hW hD (fun _ _ => rfl)]
theorem zcV (a b m : Int) : 0 <= subI a b m := (zem a b m).1
theorem sub_back {a b m : Int} (h : okM m = true) : (subI a b m + b) % m = a % m := by
 rw [zb7 h, zbF (zak (a - b) m) rfl, Int.sub_add_cancel]
end
section
open Go.RowKit
def ListsIn (w : World) (a : OA) (n : Nat) (BA : Nat -> Option Addr) (L C : Nat -> Nat) (B : NN) : Prop :=
 n = 0 ∨ ∃ b off, a = some ⟨b, off, none⟩ /\ b < w.heap.size /\ ∀ j, j < n -> w.cell? ⟨b, off + j, none⟩ = some (.slice (BA j) (L j) (C j)) /\ L j <= C j /\ C j <= 9223372036854775807 /\ FacsIn w (BA j) (L j) (B j)
theorem ListsIn.old {w w' : World} {a : OA} {n : Nat} {BA : Nat -> Option Addr} {L C : Nat -> Nat} {B : NN} (h : ListsIn w a n BA L C B) (ho : Old w w') : ListsIn w' a n BA L C B := by
 rcases h with h | ⟨b, off, ha, hb, hr⟩
 ·exact Or.inl h
 ·exact Or.inr ⟨b, off, ha, Nat.lt_of_lt_of_le hb ho.size, fun j hj => ⟨ho.cellOf (hr j hj).1, (hr j hj).2.1, (hr j hj).2.2.1, (hr j hj).2.2.2.old ho⟩⟩
theorem ListsIn.facs {w : World} {a : OA} {n : Nat} {BA : Nat -> Option Addr} {L C : Nat -> Nat} {B : NN} (h : ListsIn w a n BA L C B) {j : Nat} (hj : j < n) : FacsIn w (BA j) (L j) (B j) := by
 rcases h with h | ⟨_, _, _, _, hr⟩
 ·omega
 ·exact (hr j hj).2.2.2
abbrev cv (bt : OA) (nt ct : Nat) (bb : OA) (nb cb : Nat) : Value := .agg #[.slice bt nt ct, .slice bb nb cb]
abbrev cc (bt : OA) (nt ct : Nat) (bb : OA) (nb cb : Nat) : Array Value := #[.slice bt nt ct, .slice bb nb cb]
structure ClaimIn (w : World) (bt : OA) (nt ct : Nat) (T : NI) (bb : OA) (nb cb : Nat) (BA : Nat -> Option Addr) (L C : Nat -> Nat) (B : NN) : Prop where
 tc : nt <= ct
 tm : ct <= 9223372036854775807
 bc : nb <= cb
 bm : cb <= 9223372036854775807
 tar : FacsIn w bt nt T
 bas : ListsIn w bb nb BA L C B
theorem ClaimIn.old {w w' : World} {bt : OA} {nt ct : Nat} {T : NI} {bb : OA} {nb cb : Nat} {BA : Nat -> Option Addr} {L C : Nat -> Nat} {B : NN} (h : ClaimIn w bt nt ct T bb nb cb BA L C B) (ho : Old w w') : ClaimIn w' bt nt ct T bb nb cb BA L C B :=
 ⟨h.tc, h.tm, h.bc, h.bm, h.tar.old ho, h.bas.old ho⟩
def rowsB (P Q : Int) (T : NI) (L : Nat -> Nat) (B : NN) (n k : Nat) : Bool :=
 (List.range k).all fun j => inI P Q (T j) && (decide (L j = n) && (List.range n).all fun i => inI P Q (B j i))
theorem zbh {P Q : Int} {T : NI} {L : Nat -> Nat} {B : NN} {n k : Nat} : rowsB P Q T L B n k = true ↔ ∀ j, j < k -> inI P Q (T j) = true /\ L j = n /\ ∀ i, i < n -> inI P Q (B j i) = true := by
 simp [rowsB]
def sizeN (P Q : Int) (nt : Nat) (T : NI) (nb : Nat) (L : Nat -> Nat) (B : NN) : Nat :=
 if 1 <= nt /\ nt <= 64 /\ nb = nt /\ 1 <= L 0 /\ L 0 <= 64 /\ rowsB P Q T L B (L 0) nt = true then L 0 else 0
structure IsClaim (P Q : Int) (nt : Nat) (T : NI) (nb : Nat) (L : Nat -> Nat) (B : NN) (n : Nat) : Prop where
 t1 : 1 <= nt
 t64 : nt <= 64
 nb : nb = nt
 n1 : 1 <= n
 n64 : n <= 64
 len : ∀ j, j < nt -> L j = n
 tin : ∀ j, j < nt -> inI P Q (T j) = true
 bin : ∀ j, j < nt -> ∀ i, i < n -> inI P Q (B j i) = true
theorem IsClaim.size {P Q : Int} {nt : Nat} {T : NI} {nb : Nat} {L : Nat -> Nat} {B : NN} {n : Nat} (h : IsClaim P Q nt T nb L B n) : sizeN P Q nt T nb L B = n := by
 have h0 := h.len 0 h.t1
 unfold sizeN
 rw [if_pos ⟨h.t1, h.t64, h.nb, by rw [h0]; exact h.n1, by rw [h0]; exact h.n64, by rw [h0]; exact zbh.2 fun j hj => ⟨h.tin j hj, h.len j hj, h.bin j hj⟩⟩, h0]
theorem zcT {P Q : Int} {nt : Nat} {T : NI} {nb : Nat} {L : Nat -> Nat} {B : NN} (h : sizeN P Q nt T nb L B ≠ 0) : IsClaim P Q nt T nb L B (sizeN P Q nt T nb L B) := by
 unfold sizeN at h ⊢
 split
 ·rename_i hc
  obtain ⟨h1, h2, h3, h4, h5, h6⟩ := hc
  have h7 := zbh.1 h6
  exact ⟨h1, h2, h3, h4, h5, fun j hj => (h7 j hj).2.1, fun j hj => (h7 j hj).1, fun j hj => (h7 j hj).2.2⟩
 ·rename_i hc
  rw [if_neg hc] at h
  exact absurd rfl h
theorem sizeN_le (P Q : Int) (nt : Nat) (T : NI) (nb : Nat) (L : Nat -> Nat) (B : NN) : sizeN P Q nt T nb L B <= 64 := by
 unfold sizeN
 split
 ·rename_i hc; exact hc.2.2.2.2.1
 ·omega
theorem zca {P Q : Int} {nt : Nat} {T : NI} {nb : Nat} {L : Nat -> Nat} {B : NN} (h : ¬ (1 <= nt /\ nt <= 64 /\ nb = nt /\ 1 <= L 0 /\ L 0 <= 64 /\ rowsB P Q T L B (L 0) nt = true)) : sizeN P Q nt T nb L B = 0 := by
 unfold sizeN
 rw [if_neg h]
def sameB (n : Nat) (X : NI) (m : Nat) (Y : NI) : Bool := decide (n = m) && (List.range n).all fun i => X i == Y i
theorem zeI {n m : Nat} {X Y : NI} : sameB n X m Y = true ↔ n = m /\ ∀ i, i < n -> X i = Y i := by
 simp [sameB]
end
section
open Go.RowKit
def Gives (w : World) (ok : Bool) (k : Nat) (F : NI) (r : Ending) (w' : World) : Prop := ∃ v, r = .returned (.tuple #[v, .bool ok]) /\ Nums w' w.heap.size v (if ok then k else 0) F /\ Old w w'
theorem Nums.mono {w : World} {base base' k : Nat} {v : Value} {F : NI} (h : Nums w base v k F) (hb : base' <= base) : Nums w base' v k F := World.ownsRow.mono h hb
theorem zc5 {w w' : World} {ok : Bool} {k : Nat} {F : NI} {v : Value} (hok : ok = true) (hN : Nums w' w.heap.size v k F) (ho : Old w w') : Gives w ok k F (.returned (.tuple #[v, .bool true])) w' := by
 subst hok
 exact ⟨v, rfl, by simpa using hN, ho⟩
theorem zdf {w w' : World} {ok : Bool} {k : Nat} {F : NI} (hok : ok = false) (ho : Old w w') : Gives w ok k F (.returned (.tuple #[.slice none 0 0, .bool false])) w' := by
 subst hok
 exact ⟨_, rfl, by simpa using zaD w' w.heap.size F, ho⟩
theorem zcf (b1 : OA) (n1 c1 : Nat) (X : NI) (b2 : OA) (n2 c2 : Nat) (Y : NI) (w : World) (m1 : n1 <= 9223372036854775807) (h1 : FacsIn w b1 n1 X) (h2 : FacsIn w b2 n2 Y) :
  Calls prog 19 #[.slice b1 n1 c1, .slice b2 n2 c2] w fun e w' => e = .returned (.bool (sameB n1 X n2 Y)) /\ Old w w' := by
 have HX : Hid (FacsIn w b1 n1 X) := h1
 have HY : Hid (FacsIn w b2 n2 Y) := h2
 clear h1 h2
 by_cases hn : n1 = n2
 ·subst hn
  go_enter func19, ntmps19
  go_wp2_with fail
  go_loopw [5] (fun iv wx => ∃ i : Nat, iv = .int .i64 (i : Int) /\ i <= n1 /\ Hid (Old w wx) /\ Hid (∀ j, j < i -> X j = Y j)) (fun iv _ => n1 - (intOf iv).toNat)
  case atStart => exact ⟨0, rfl, Nat.zero_le _, Old.refl _, fun j hj => by omega⟩
  case round =>
   obtain ⟨i, rfl, hi, HO, HJ⟩ := hrel
   by_cases hlt : i < n1
   ·rcases HX.out.old HO.out with h0 | ⟨bx, ox, hqx, _, hrx⟩
    ·omega
    rcases HY.out.old HO.out with h0 | ⟨by_, oy, hqy, _, hry⟩
    ·omega
    have cx := (hrx i hlt).1
    have cy := (hry i hlt).1
    clear hrx hry
    subst hqx hqy
    by_cases he : X i = Y i
    ·have HM : Hid (X i = Y i) := he
     rw [<- he] at cy
     clear he
     go_upto_region 6 with fail
     go_quiet (fail)
     go_wp2_with fail
     go_roundw
     case rel => exact ⟨i + 1, zab i, by omega, by first | exact HO.out | exact HO.out.drew | exact HO.out.drewN _, zav HJ.out HM.out⟩
     case measure => simp [intOf]; omega
    ·have HN : Hid (sameB n1 X n1 Y = false) := no_of fun hc => he ((zeI.1 hc).2 i hlt)
     go_upto_region 6 with fail
     go_quiet (fail)
     go_wp2_with fail
     go_ret
     exact ⟨zad HN.out.symm, by first | exact HO.out | exact HO.out.drew | exact HO.out.drewN _⟩
   ·have he : n1 = i := by omega
    subst he
    have HN : Hid (sameB n1 X n1 Y = true) := zeI.2 ⟨rfl, HJ.out⟩
    go_wp2_with fail
    go_ret
    exact ⟨zad HN.out.symm, HO.out⟩
 ·have HN : Hid (sameB n1 X n2 Y = false) := no_of fun hc => hn (zeI.1 hc).1
  have k1 : ¬ (n1 : Int) = (n2 : Int) := by omega
  go_enter func19, ntmps19
  go_wp2_with fail
  go_ret
  exact ⟨zad HN.out.symm, Old.refl _⟩
theorem ranswer_any (P Q G H : Int) (a : OA) (n cap : Nat) (b1 : OA) (n1 c1 : Nat) (X : NI) (b2 : OA) (n2 c2 : Nat) (Y : NI) (e : Int) (w : World) (he : U64 e) (m1 : n1 <= 80) (h1 : FacsIn w b1 n1 X) (h2 : FacsIn w b2 n2 Y) :
  Calls prog 134 #[gv P Q G H a n cap, .slice b1 n1 c1, .slice b2 n2 c2, .int .u64 e] w (Gives w (decide (n1 = n2)) n1 (fun k => ansI Q e (X k) (Y k))) := by
 have HX : Hid (FacsIn w b1 n1 X) := h1
 have HY : Hid (FacsIn w b2 n2 Y) := h2
 have HZ := lain1 w (gc P Q G H a n cap) 25
 by_cases hn : n1 = n2
 ·subst hn
  obtain ⟨M, hM⟩ : ∃ M : Nat -> Int, M = fun k => mulI e (X k) Q := ⟨_, rfl⟩
  obtain ⟨F, hF⟩ : ∃ F : Nat -> Int, F = fun k => ansI Q e (X k) (Y k) := ⟨_, rfl⟩
  have H1 : Hid (∀ i wx, i < n1 -> Calls prog 70 #[.int .u64 e, .int .u64 (X i), .int .u64 Q] wx fun r w' => r = .returned (.int .u64 (M i)) /\ Old wx w') := fun i wx hi => (zbn e (X i) Q wx he.1 he.2 (h1.u64 i hi).1 (h1.u64 i hi).2).mono fun r w' ⟨h, k⟩ => ⟨by rw [h, hM], (Old.refl _).draws k⟩
  have H2 : Hid (∀ i wx, i < n1 -> Calls prog 77 #[.int .u64 (Y i), .int .u64 (M i), .int .u64 Q] wx fun r w' => r = .returned (.int .u64 (F i)) /\ Old wx w') := fun i wx hi => (zdU (Y i) (M i) Q wx (h2.u64 i hi).1 (h2.u64 i hi).2 (by rw [hM]; exact (zaI _ _ _).1) (by rw [hM]; exact (zaI _ _ _).2)).mono fun r w' ⟨h, k⟩ => ⟨by rw [h, hF, hM]; rfl, (Old.refl _).draws k⟩
  rw [<- hF]
  clear hF hM he h1 h2
  obtain ⟨i0, hi, hz0, hz1, hz2⟩ := info_parts zbj
  go_enter func134, ntmps134
  go_upto_region 1 with fail
  generalize hW : w.alloc (.cells (gc P Q G H a n cap) 25) = W at *
  clear hW
  go_wp2_with fail
  go_loopw [10, 11] (fun v iv wx => ∃ i : Nat, iv = .int .i64 (i : Int) /\ i <= n1 /\ Hid (Nums wx W.heap.size v i F) /\ Hid (Old W wx)) (fun _ iv _ => n1 - (intOf iv).toNat)
  case atStart => exact ⟨0, rfl, Nat.zero_le _, zaD _ _ _, Old.refl _⟩
  case round =>
   obtain ⟨i, rfl, hi1, HN, HW⟩ := hrel
   by_cases hlt : i < n1
   ·rcases HX.out with h0 | ⟨bx, ox, hqx, _, hrx⟩
    ·omega
    rcases HY.out with h0 | ⟨by_, oy, hqy, _, hry⟩
    ·omega
    have HT : Hid (∀ w', Old W w' -> w'.cell? ⟨w.heap.size, 1, none⟩ = some (.int .u64 Q) /\ w'.cell? ⟨bx, ox + i, none⟩ = some (.int .u64 (X i)) /\ w'.cell? ⟨by_, oy + i, none⟩ = some (.int .u64 (Y i))) := fun w' ho => ⟨(HZ.then ho).cell 0 1 (by simp) rfl, (HZ.old.trans ho).cellOf (hrx i hlt).1, (HZ.old.trans ho).cellOf (hry i hlt).1⟩
    clear hrx hry
    subst hqx hqy
    obtain ⟨dq, cx, cy⟩ := HT.out _ HW.out
    have HM : Hid (∀ wx, Calls prog 70 #[.int .u64 e, .int .u64 (X i), .int .u64 Q] wx fun r w' => r = .returned (.int .u64 (M i)) /\ Old wx w') := fun wx => H1.out i wx hlt
    have HA : Hid (∀ wx, Calls prog 77 #[.int .u64 (Y i), .int .u64 (M i), .int .u64 Q] wx fun r w' => r = .returned (.int .u64 (F i)) /\ Old wx w') := fun wx => H2.out i wx hlt
    go_upto_region 7 with fail
    go_region_held3 (fun w' => w'.cell? ⟨w.heap.size, 1, none⟩ = some (.int .u64 Q) /\ w'.cell? ⟨bx, ox + i, none⟩ = some (.int .u64 (X i)) /\ w'.cell? ⟨by_, oy + i, none⟩ = some (.int .u64 (Y i))) (first | exact HT.out _ h6 | exact HT.out _ h5 | exact HT.out _ (h5.alloc _) | exact HT.out _ h4 | exact HT.out _ HW.out.drew) (first
     | (go_at_call 70; refine (HM.out _).mono ?_; rintro e w4 ⟨rfl, o4⟩; have h4 : Old W w4 := HW.out.drew.trans o4)
     | (go_at_call 77; refine (HA.out _).mono ?_; rintro e w5 ⟨rfl, o5⟩; have h5 : Old W w5 := h4.trans o5; have hown := HN.out.old (((Old.refl wr).drew.trans o4).trans o5); have hs5 := h5.size)
     | (refine step_append_lies _ rfl (.tmp 23) (.tmp 39) 29 rfl W.heap.size 22 i0 (.int .u64 0) 1 8 underlying29 hi hz0 hz1 hz2 rfl (by decide) _ _ _ rfl (World.ownsRow.alloc hown _) ⟨w5.heap.size, 0, none⟩ 1 1 [.int .u64 (F i)] rfl rfl (cell_one_new _ _ _) (by intro u hu; simp at hu; subst hu; rfl) (by decide) (by unfold maxLen; omega) (by omega) (by simp; omega) _ rfl ?_; intro g6 cap6 w6 hown6 hgrow6 _ _; have h6 : Old W w6 := Nums.grown hown h5 hgrow6))
    go_wp2_with fail
    go_roundw
    case rel => exact ⟨i + 1, zab i, by omega, Nums.app hown6 rfl, h6⟩
    case measure => simp [intOf]; omega
   ·have he : n1 = i := by omega
    subst he
    go_wp2_with fail
    go_ret2
    exact zc5 (by simp) (HN.out.mono HZ.old.size) (HZ.old.trans HW.out)
 ·have k1 : ¬ (n1 : Int) = (n2 : Int) := by omega
  clear he h1 h2
  go_enter func134, ntmps134
  go_wp2_with fail
  go_ret2
  exact zdf (by simp [hn]) ((Old.refl _).alloc _)
end
section
open Go.RowKit
set_option linter.unusedSimpArgs false in
theorem rsize_any (P Q G H : Int) (a : OA) (n cap : Nat) (bt : OA) (nt ct : Nat) (T : NI) (bb : OA) (nb cb : Nat) (BA : Nat -> Option Addr) (L C : Nat -> Nat) (B : NN) (w : World) (h4 : Four P Q G H) (hC : ClaimIn w bt nt ct T bb nb cb BA L C B) :
  Calls prog 150 #[gv P Q G H a n cap, cv bt nt ct bb nb cb] w fun e w' => e = .returned (.int .i64 (sizeN P Q nt T nb L B : Nat)) /\ Old w w' := by
 have HZ := lain2 w (gc P Q G H a n cap) (cc bt nt ct bb nb cb) 25 50
 have HF : Hid (∀ w', Lain w [(gc P Q G H a n cap, 25), (cc bt nt ct bb nb cb, 50)] w' -> w'.cell? ⟨w.heap.size, 0, none⟩ = some (.int .u64 P) /\ w'.cell? ⟨w.heap.size, 1, none⟩ = some (.int .u64 Q) /\ w'.cell? ⟨w.heap.size, 2, none⟩ = some (.int .u64 G) /\ w'.cell? ⟨w.heap.size, 3, none⟩ = some (.int .u64 H) /\ w'.cell? ⟨w.heap.size, 4, none⟩ = some (.slice a n cap) /\ w'.cell? ⟨w.heap.size + 1, 0, none⟩ = some (.slice bt nt ct) /\ w'.cell? ⟨w.heap.size + 1, 1, none⟩ = some (.slice bb nb cb)) := fun _ h => ⟨h.cell 0 0 (by simp) rfl, h.cell 0 1 (by simp) rfl, h.cell 0 2 (by simp) rfl, h.cell 0 3 (by simp) rfl, h.cell 0 4 (by simp) rfl, h.cell 1 0 (by simp) rfl, h.cell 1 1 (by simp) rfl⟩
 have HC : Hid (ClaimIn w bt nt ct T bb nb cb BA L C B) := hC
 have HI : Hid (∀ x wx, U64 x -> Calls prog 55 #[gv P Q G H a n cap, .int .u64 x] wx fun e w' => e = .returned (.bool (inI P Q x)) /\ Old wx w') := fun x wx hx => zdD P Q G H x a n cap wx h4.q0 h4.q1 hx.2
 clear hC h4
 by_cases hc : ¬ (1 <= nt /\ nt <= 64 /\ nb = nt)
 ·have HN : Hid (sizeN P Q nt T nb L B = 0) := zca fun h => hc ⟨h.1, h.2.1, h.2.2.1⟩
  have HO : Hid (Old w ((w.alloc (.cells (gc P Q G H a n cap) 25)).alloc (.cells (cc bt nt ct bb nb cb) 50))) := ((Old.refl _).alloc _).alloc _
  rcases (show nt < 1 ∨ 64 < nt ∨ (1 <= nt /\ nt <= 64 /\ nb ≠ nt) by omega) with h1 | h1 | ⟨h1, h2, h3⟩
  ·have k1 : (nt : Int) < 1 := by omega
   clear hc
   go_enter func150, ntmps150
   go_wp2_with fail
   go_ret
   exact ⟨by rw [HN.out]; rfl, HO.out⟩
  ·have k1 : ¬ (nt : Int) < 1 := by omega
   have k2 : (64 : Int) < (nt : Int) := by omega
   clear hc
   go_enter func150, ntmps150
   go_wp2_with fail
   go_ret
   exact ⟨by rw [HN.out]; rfl, HO.out⟩
  ·have k1 : ¬ (nt : Int) < 1 := by omega
   have k2 : ¬ (64 : Int) < (nt : Int) := by omega
   have k3 : ¬ (nb : Int) = (nt : Int) := by omega
   clear hc
   go_enter func150, ntmps150
   go_wp2_with fail
   go_ret
   exact ⟨by rw [HN.out]; rfl, HO.out⟩
 obtain ⟨h1, h2, h3⟩ := Classical.not_not.1 hc
 clear hc
 subst h3
 rcases HC.out.tar with h0 | ⟨tb, tof, hqt, _, hrt⟩
 ·omega
 rcases HC.out.bas with h0 | ⟨lb, lo, hqb, _, hrb⟩
 ·omega
 subst hqt hqb
 have HRT : Hid (∀ j, j < nb -> ∀ w', Old w w' -> w'.cell? ⟨tb, tof + j, none⟩ = some (.int .u64 (T j))) := fun j hj w' ho => ho.cellOf (hrt j hj).1
 have HRB : Hid (∀ j, j < nb -> ∀ w', Old w w' -> w'.cell? ⟨lb, lo + j, none⟩ = some (.slice (BA j) (L j) (C j))) := fun j hj w' ho => ho.cellOf (hrb j hj).1
 have HRF : Hid (∀ j, j < nb -> FacsIn w (BA j) (L j) (B j)) := fun j hj => (hrb j hj).2.2.2
 have HTU : Hid (∀ j, j < nb -> U64 (T j)) := fun j hj => (hrt j hj).2
 clear hrt hrb
 obtain ⟨nn, hnn⟩ : ∃ nn : Nat, nn = L 0 := ⟨_, rfl⟩
 have k1 : ¬ (nb : Int) < 1 := by omega
 have k2 : ¬ (64 : Int) < (nb : Int) := by omega
 have k4 : (0 : Int) < (nb : Int) := by omega
 have k5 : 0 < nb := by omega
 go_enter func150, ntmps150
 go_upto_region 1 with fail
 generalize hW : (w.alloc (.cells (gc P Q G H a n cap) 25)).alloc (.cells (cc (some ⟨tb, tof, none⟩) nb ct (some ⟨lb, lo, none⟩) nb cb) 50) = W at *
 clear hW
 have HW0 : Hid (Old w W) := HZ.old
 obtain ⟨d0, d1, d2, d3, d4, t0, t1⟩ := HF.out _ HZ
 have l0 := HRB.out 0 k5 _ HW0.out
 rw [<- hnn, Nat.add_zero] at l0
 by_cases hl : nn < 1
 ·have HN : Hid (sizeN P Q nb T nb L B = 0) := zca fun h => by have := h.2.2.2.1; omega
  have k6 : (nn : Int) < 1 := by omega
  clear hnn
  go_wp2_with fail
  go_ret
  exact ⟨by rw [HN.out]; rfl, HW0.out⟩
 by_cases hl2 : 64 < nn
 ·have HN : Hid (sizeN P Q nb T nb L B = 0) := zca fun h => by have := h.2.2.2.2.1; omega
  have k6 : ¬ (nn : Int) < 1 := by omega
  have k7 : (64 : Int) < (nn : Int) := by omega
  clear hnn
  go_wp2_with fail
  go_ret
  exact ⟨by rw [HN.out]; rfl, HW0.out⟩
 have k6 : ¬ (nn : Int) < 1 := by omega
 have k7 : ¬ (64 : Int) < (nn : Int) := by omega
 have HNO : Hid (∀ j, j < nb -> ¬ (inI P Q (T j) = true /\ L j = nn /\ ∀ i, i < nn -> inI P Q (B j i) = true) -> sizeN P Q nb T nb L B = 0) := fun j hj hn => zca fun h => hn (by have := zbh.1 h.2.2.2.2.2 j hj; rw [<- hnn] at this; exact this)
 have HYES : Hid ((∀ j, j < nb -> inI P Q (T j) = true /\ L j = nn /\ ∀ i, i < nn -> inI P Q (B j i) = true) -> sizeN P Q nb T nb L B = nn) := fun hy => by
  unfold sizeN
  rw [<- hnn, if_pos ⟨h1, h2, rfl, by omega, by omega, zbh.2 hy⟩]
 clear hnn
 go_wp2_with fail
 clear d0 d1 d2 d3 d4 t0 t1 l0
 clear k1 k2 k4 k5 k6 k7
 go_loopw [6] (fun jv wx => ∃ j : Nat, jv = .int .i64 (j : Int) /\ j <= nb /\ Hid (Old W wx) /\ Hid (∀ i, i < j -> inI P Q (T i) = true /\ L i = nn /\ ∀ k, k < nn -> inI P Q (B i k) = true)) (fun jv _ => nb - (intOf jv).toNat)
 case atStart => exact ⟨0, rfl, Nat.zero_le _, Old.refl _, fun j hj => by omega⟩
 case round =>
  obtain ⟨j, rfl, hj, HW, HJ⟩ := hrel
  by_cases hlt : j < nb
  ·have HT : Hid (∀ w', Old W w' -> w'.cell? ⟨w.heap.size, 0, none⟩ = some (.int .u64 P) /\ w'.cell? ⟨w.heap.size, 1, none⟩ = some (.int .u64 Q) /\ w'.cell? ⟨w.heap.size, 2, none⟩ = some (.int .u64 G) /\ w'.cell? ⟨w.heap.size, 3, none⟩ = some (.int .u64 H) /\ w'.cell? ⟨w.heap.size, 4, none⟩ = some (.slice a n cap) /\ w'.cell? ⟨w.heap.size + 1, 0, none⟩ = some (.slice (some ⟨tb, tof, none⟩) nb ct) /\ w'.cell? ⟨w.heap.size + 1, 1, none⟩ = some (.slice (some ⟨lb, lo, none⟩) nb cb) /\ w'.cell? ⟨tb, tof + j, none⟩ = some (.int .u64 (T j)) /\ w'.cell? ⟨lb, lo + j, none⟩ = some (.slice (BA j) (L j) (C j))) := fun w' ho => by
    obtain ⟨d0, d1, d2, d3, d4, t0, t1⟩ := HF.out _ (HZ.then ho)
    exact ⟨d0, d1, d2, d3, d4, t0, t1, HRT.out j hlt _ (HW0.out.trans ho), HRB.out j hlt _ (HW0.out.trans ho)⟩
   obtain ⟨d0, d1, d2, d3, d4, t0, t1, ct0, cl0⟩ := HT.out _ HW.out
   have HIj : Hid (∀ wx, Calls prog 55 #[gv P Q G H a n cap, .int .u64 (T j)] wx fun e w' => e = .returned (.bool (inI P Q (T j))) /\ Old wx w') := fun wx => HI.out (T j) wx (HTU.out j hlt)
   have k9 : (j : Int) < (nb : Int) := by omega
   cases hin : inI P Q (T j)
   ·have HN : Hid (sizeN P Q nb T nb L B = 0) := HNO.out j hlt fun h => by rw [hin] at h; exact Bool.noConfusion h.1
    rw [hin] at HIj
    clear hin
    go_upto_region 9 with fail
    refine wp_region_held_drew (S := (fun w' => w'.cell? ⟨w.heap.size, 0, none⟩ = some (.int .u64 P) /\ w'.cell? ⟨w.heap.size, 1, none⟩ = some (.int .u64 Q) /\ w'.cell? ⟨w.heap.size, 2, none⟩ = some (.int .u64 G) /\ w'.cell? ⟨w.heap.size, 3, none⟩ = some (.int .u64 H) /\ w'.cell? ⟨w.heap.size, 4, none⟩ = some (.slice a n cap) /\ w'.cell? ⟨w.heap.size + 1, 0, none⟩ = some (.slice (some ⟨tb, tof, none⟩) nb ct) /\ w'.cell? ⟨w.heap.size + 1, 1, none⟩ = some (.slice (some ⟨lb, lo, none⟩) nb cb) /\ w'.cell? ⟨tb, tof + j, none⟩ = some (.int .u64 (T j)) /\ w'.cell? ⟨lb, lo + j, none⟩ = some (.slice (BA j) (L j) (C j)))) (by kernel_rfl) (HT.out _ HW.out.drew) (fun hHeld => ?_)
    refine wpAnyH_take (i := 0) (v := ?_) rfl (by kernel_rfl) (by kernel_rfl) (by kernel_rfl) (fun _ _ _ h => h) (Or.inl ⟨by rfl, ?_⟩) (by assumption) ?_
    rotate_left
    ·intro wz hSw
     try dsimp only at hSw
     go_simp
     try rfl
    simp only [Act.put, List.getElem_toArray, List.getElem_cons_zero, List.getElem_cons_succ, List.setIfInBounds_toArray, List.set_cons_zero, List.set_cons_succ]
    refine wpAnyH_take (i := 1) (v := ?_) rfl (by kernel_rfl) (by kernel_rfl) (by kernel_rfl) (fun _ _ _ h => h) (Or.inl ⟨by rfl, ?_⟩) (by assumption) ?_
    rotate_left
    ·intro wz hSw
     try dsimp only at hSw
     go_simp
     try rfl
    simp only [Act.put, List.getElem_toArray, List.getElem_cons_zero, List.getElem_cons_succ, List.setIfInBounds_toArray, List.set_cons_zero, List.set_cons_succ]
    refine wpAnyH_take (i := 2) (v := ?_) rfl (by kernel_rfl) (by kernel_rfl) (by kernel_rfl) (fun _ _ _ h => h) (Or.inl ⟨by rfl, ?_⟩) (by assumption) ?_
    rotate_left
    ·intro wz hSw
     try dsimp only at hSw
     go_simp
     try rfl
    simp only [Act.put, List.getElem_toArray, List.getElem_cons_zero, List.getElem_cons_succ, List.setIfInBounds_toArray, List.set_cons_zero, List.set_cons_succ]
    refine wpAnyH_take (i := 3) (v := ?_) rfl (by kernel_rfl) (by kernel_rfl) (by kernel_rfl) (fun _ _ _ h => h) (Or.inl ⟨by rfl, ?_⟩) (by assumption) ?_
    rotate_left
    ·intro wz hSw
     try dsimp only at hSw
     go_simp
     try rfl
    simp only [Act.put, List.getElem_toArray, List.getElem_cons_zero, List.getElem_cons_succ, List.setIfInBounds_toArray, List.set_cons_zero, List.set_cons_succ]
    refine wpAnyH_take (i := 4) (v := ?_) rfl (by kernel_rfl) (by kernel_rfl) (by kernel_rfl) (fun _ _ _ h => h) (Or.inl ⟨by rfl, ?_⟩) (by assumption) ?_
    rotate_left
    ·intro wz hSw
     try dsimp only at hSw
     go_simp
     try rfl
    simp only [Act.put, List.getElem_toArray, List.getElem_cons_zero, List.getElem_cons_succ, List.setIfInBounds_toArray, List.set_cons_zero, List.set_cons_succ]
    refine wpAnyH_take (i := 5) (v := ?_) rfl (by kernel_rfl) (by kernel_rfl) (by kernel_rfl) (fun _ _ _ h => h) (Or.inl ⟨by rfl, ?_⟩) (by assumption) ?_
    rotate_left
    ·intro wz hSw
     try dsimp only at hSw
     go_simp
     try rfl
    simp only [Act.put, List.getElem_toArray, List.getElem_cons_zero, List.getElem_cons_succ, List.setIfInBounds_toArray, List.set_cons_zero, List.set_cons_succ]
    refine wpAnyH_ready (rs := [6]) (by kernel_rfl) (by simp) ?_
    refine AllReadyH.cons rfl (fun K hK => ?_) AllReadyH.nil
    rw [if_pos (by rfl)]
    go_simp
    refine (HIj.out _).mono ?_
    rintro e w4 ⟨rfl, o4⟩
    have h4 : Old W w4 := HW.out.drew.trans o4
    refine hK.out _ _ (HT.out _ h4) (fun hHeld => ?_)
    clear hK K
    refine wpAnyH_take (i := 7) (v := ?_) rfl (by kernel_rfl) (by kernel_rfl) (by kernel_rfl) (fun _ _ _ h => h) (Or.inl ⟨by rfl, ?_⟩) (by assumption) ?_
    rotate_left
    ·intro wz hSw
     try dsimp only at hSw
     go_simp
     try rfl
    simp only [Act.put, List.getElem_toArray, List.getElem_cons_zero, List.getElem_cons_succ, List.setIfInBounds_toArray, List.set_cons_zero, List.set_cons_succ]
    refine wpAnyH_take (i := 8) (v := ?_) rfl (by kernel_rfl) (by kernel_rfl) (by kernel_rfl) (fun _ _ _ h => h) (Or.inl ⟨by rfl, ?_⟩) (by assumption) ?_
    rotate_left
    ·intro wz hSw
     try dsimp only at hSw
     go_simp
     try rfl
    simp only [Act.put, List.getElem_toArray, List.getElem_cons_zero, List.getElem_cons_succ, List.setIfInBounds_toArray, List.set_cons_zero, List.set_cons_succ]
    refine wpAnyH_take (i := 9) rfl (by kernel_rfl) (by kernel_rfl) (by kernel_rfl) (fun _ _ _ h => h) (Or.inr ⟨by rfl, rfl⟩) (by assumption) ?_
    simp only [Act.put, List.getElem_toArray, List.getElem_cons_zero, List.getElem_cons_succ, List.setIfInBounds_toArray, List.set_cons_zero, List.set_cons_succ]
    refine wpAnyH_take (i := 10) rfl (by kernel_rfl) (by kernel_rfl) (by kernel_rfl) (fun _ _ _ h => h) (Or.inr ⟨by rfl, rfl⟩) (by assumption) ?_
    simp only [Act.put, List.getElem_toArray, List.getElem_cons_zero, List.getElem_cons_succ, List.setIfInBounds_toArray, List.set_cons_zero, List.set_cons_succ]
    refine wpAnyH_take (i := 11) rfl (by kernel_rfl) (by kernel_rfl) (by kernel_rfl) (fun _ _ _ h => h) (Or.inr ⟨by rfl, rfl⟩) (by assumption) ?_
    simp only [Act.put, List.getElem_toArray, List.getElem_cons_zero, List.getElem_cons_succ, List.setIfInBounds_toArray, List.set_cons_zero, List.set_cons_succ]
    refine wpAnyH_take (i := 12) rfl (by kernel_rfl) (by kernel_rfl) (by kernel_rfl) (fun _ _ _ h => h) (Or.inr ⟨by rfl, rfl⟩) (by assumption) ?_
    simp only [Act.put, List.getElem_toArray, List.getElem_cons_zero, List.getElem_cons_succ, List.setIfInBounds_toArray, List.set_cons_zero, List.set_cons_succ]
    refine wpAnyH_take (i := 13) rfl (by kernel_rfl) (by kernel_rfl) (by kernel_rfl) (fun _ _ _ h => h) (Or.inr ⟨by rfl, rfl⟩) (by assumption) ?_
    simp only [Act.put, List.getElem_toArray, List.getElem_cons_zero, List.getElem_cons_succ, List.setIfInBounds_toArray, List.set_cons_zero, List.set_cons_succ]
    refine wpAnyH_take (i := 14) rfl (by kernel_rfl) (by kernel_rfl) (by kernel_rfl) (fun _ _ _ h => h) (Or.inr ⟨by rfl, rfl⟩) (by assumption) ?_
    simp only [Act.put, List.getElem_toArray, List.getElem_cons_zero, List.getElem_cons_succ, List.setIfInBounds_toArray, List.set_cons_zero, List.set_cons_succ]
    refine wpAnyH_take (i := 15) rfl (by kernel_rfl) (by kernel_rfl) (by kernel_rfl) (fun _ _ _ h => h) (Or.inr ⟨by rfl, rfl⟩) (by assumption) ?_
    simp only [Act.put, List.getElem_toArray, List.getElem_cons_zero, List.getElem_cons_succ, List.setIfInBounds_toArray, List.set_cons_zero, List.set_cons_succ]
    refine wpAnyH_take (i := 16) rfl (by kernel_rfl) (by kernel_rfl) (by kernel_rfl) (fun _ _ _ h => h) (Or.inr ⟨by rfl, rfl⟩) (by assumption) ?_
    simp only [Act.put, List.getElem_toArray, List.getElem_cons_zero, List.getElem_cons_succ, List.setIfInBounds_toArray, List.set_cons_zero, List.set_cons_succ]
    refine wpAnyH_take (i := 17) (v := ?_) rfl (by kernel_rfl) (by kernel_rfl) (by kernel_rfl) (fun _ _ _ h => h) (Or.inl ⟨by rfl, ?_⟩) (by assumption) ?_
    rotate_left
    ·intro wz hSw
     try dsimp only at hSw
     go_simp
     try rfl
    simp only [Act.put, List.getElem_toArray, List.getElem_cons_zero, List.getElem_cons_succ, List.setIfInBounds_toArray, List.set_cons_zero, List.set_cons_succ]
    refine wpAnyH_done (by kernel_rfl) ?_ _
    go_wp2_with fail
    go_ret
    exact ⟨by rw [HN.out]; rfl, HW0.out.trans h4⟩
   by_cases hL : L j = nn
   ·have HLj : Hid (L j = nn) := hL
    have HIN : Hid (inI P Q (T j) = true) := hin
    rw [hin] at HIj
    rw [hL] at cl0 HT
    clear hin
    rcases HRF.out j hlt with h0 | ⟨rb, ro, hq, _, hr⟩
    ·omega
    rw [hq] at cl0 HT
    have HRR : Hid (∀ k, k < nn -> ∀ w', Old w w' -> w'.cell? ⟨rb, ro + k, none⟩ = some (.int .u64 (B j k))) := fun k hk w' ho => ho.cellOf (hr k (by omega)).1
    have HRU : Hid (∀ k, k < nn -> U64 (B j k)) := fun k hk => (hr k (by omega)).2
    clear hr hq hL
    go_upto_region 9 with fail
    go_region_held3 (fun w' => w'.cell? ⟨w.heap.size, 0, none⟩ = some (.int .u64 P) /\ w'.cell? ⟨w.heap.size, 1, none⟩ = some (.int .u64 Q) /\ w'.cell? ⟨w.heap.size, 2, none⟩ = some (.int .u64 G) /\ w'.cell? ⟨w.heap.size, 3, none⟩ = some (.int .u64 H) /\ w'.cell? ⟨w.heap.size, 4, none⟩ = some (.slice a n cap) /\ w'.cell? ⟨w.heap.size + 1, 0, none⟩ = some (.slice (some ⟨tb, tof, none⟩) nb ct) /\ w'.cell? ⟨w.heap.size + 1, 1, none⟩ = some (.slice (some ⟨lb, lo, none⟩) nb cb) /\ w'.cell? ⟨tb, tof + j, none⟩ = some (.int .u64 (T j)) /\ w'.cell? ⟨lb, lo + j, none⟩ = some (.slice (some ⟨rb, ro, none⟩) nn (C j))) (first | exact HT.out _ h4 | exact HT.out _ HW.out.drew) ((go_at_call 55; refine (HIj.out _).mono ?_; rintro e w4 ⟨rfl, o4⟩; have h4 : Old W w4 := HW.out.drew.trans o4))
    have HW4 : Hid (Old W w4) := h4
    clear h4 o4
    clear d0 d1 d2 d3 d4 t0 t1 ct0 cl0
    go_wp2_with fail
    go_loopw [7] (fun kv wx => ∃ k : Nat, kv = .int .i64 (k : Int) /\ k <= nn /\ Hid (Old W wx) /\ Hid (∀ i, i < k -> inI P Q (B j i) = true)) (fun kv _ => nn - (intOf kv).toNat)
    case atStart => exact ⟨0, rfl, Nat.zero_le _, HW4, fun i hi => by omega⟩
    case round =>
     obtain ⟨k, rfl, hk, HWk, HK⟩ := hrel
     by_cases hlk : k < nn
     ·have HT' : Hid (∀ w', Old W w' -> w'.cell? ⟨w.heap.size, 0, none⟩ = some (.int .u64 P) /\ w'.cell? ⟨w.heap.size, 1, none⟩ = some (.int .u64 Q) /\ w'.cell? ⟨w.heap.size, 2, none⟩ = some (.int .u64 G) /\ w'.cell? ⟨w.heap.size, 3, none⟩ = some (.int .u64 H) /\ w'.cell? ⟨w.heap.size, 4, none⟩ = some (.slice a n cap) /\ w'.cell? ⟨w.heap.size + 1, 0, none⟩ = some (.slice (some ⟨tb, tof, none⟩) nb ct) /\ w'.cell? ⟨w.heap.size + 1, 1, none⟩ = some (.slice (some ⟨lb, lo, none⟩) nb cb) /\ w'.cell? ⟨lb, lo + j, none⟩ = some (.slice (some ⟨rb, ro, none⟩) nn (C j)) /\ w'.cell? ⟨rb, ro + k, none⟩ = some (.int .u64 (B j k))) := fun w' ho => by
       obtain ⟨d0, d1, d2, d3, d4, t0, t1, _, cl⟩ := HT.out _ ho
       exact ⟨d0, d1, d2, d3, d4, t0, t1, cl, HRR.out k hlk _ (HW0.out.trans ho)⟩
      obtain ⟨d0, d1, d2, d3, d4, t0, t1, cl1, cb1⟩ := HT'.out _ HWk.out
      have HIk : Hid (∀ wx, Calls prog 55 #[gv P Q G H a n cap, .int .u64 (B j k)] wx fun e w' => e = .returned (.bool (inI P Q (B j k))) /\ Old wx w') := fun wx => HI.out (B j k) wx (HRU.out k hlk)
      cases hb : inI P Q (B j k)
      ·have HN : Hid (sizeN P Q nb T nb L B = 0) := HNO.out j hlt fun h => by have := h.2.2 k hlk; rw [hb] at this; exact Bool.noConfusion this
       rw [hb] at HIk
       clear hb
       go_upto_region 14 with fail
       go_region_held3 (fun w' => w'.cell? ⟨w.heap.size, 0, none⟩ = some (.int .u64 P) /\ w'.cell? ⟨w.heap.size, 1, none⟩ = some (.int .u64 Q) /\ w'.cell? ⟨w.heap.size, 2, none⟩ = some (.int .u64 G) /\ w'.cell? ⟨w.heap.size, 3, none⟩ = some (.int .u64 H) /\ w'.cell? ⟨w.heap.size, 4, none⟩ = some (.slice a n cap) /\ w'.cell? ⟨w.heap.size + 1, 0, none⟩ = some (.slice (some ⟨tb, tof, none⟩) nb ct) /\ w'.cell? ⟨w.heap.size + 1, 1, none⟩ = some (.slice (some ⟨lb, lo, none⟩) nb cb) /\ w'.cell? ⟨lb, lo + j, none⟩ = some (.slice (some ⟨rb, ro, none⟩) nn (C j)) /\ w'.cell? ⟨rb, ro + k, none⟩ = some (.int .u64 (B j k))) (first | exact HT'.out _ h5 | exact HT'.out _ HWk.out.drew) ((go_at_call 55; refine (HIk.out _).mono ?_; rintro e w5 ⟨rfl, o5⟩; have h5 : Old W w5 := HWk.out.drew.trans o5))
       go_wp2_with fail
       go_ret
       exact ⟨by rw [HN.out]; rfl, HW0.out.trans h5⟩
      ·have HB : Hid (inI P Q (B j k) = true) := hb
       rw [hb] at HIk
       clear hb
       go_upto_region 14 with fail
       go_region_held3 (fun w' => w'.cell? ⟨w.heap.size, 0, none⟩ = some (.int .u64 P) /\ w'.cell? ⟨w.heap.size, 1, none⟩ = some (.int .u64 Q) /\ w'.cell? ⟨w.heap.size, 2, none⟩ = some (.int .u64 G) /\ w'.cell? ⟨w.heap.size, 3, none⟩ = some (.int .u64 H) /\ w'.cell? ⟨w.heap.size, 4, none⟩ = some (.slice a n cap) /\ w'.cell? ⟨w.heap.size + 1, 0, none⟩ = some (.slice (some ⟨tb, tof, none⟩) nb ct) /\ w'.cell? ⟨w.heap.size + 1, 1, none⟩ = some (.slice (some ⟨lb, lo, none⟩) nb cb) /\ w'.cell? ⟨lb, lo + j, none⟩ = some (.slice (some ⟨rb, ro, none⟩) nn (C j)) /\ w'.cell? ⟨rb, ro + k, none⟩ = some (.int .u64 (B j k))) (first | exact HT'.out _ h5 | exact HT'.out _ HWk.out.drew) ((go_at_call 55; refine (HIk.out _).mono ?_; rintro e w5 ⟨rfl, o5⟩; have h5 : Old W w5 := HWk.out.drew.trans o5))
       have HW5 : Hid (Old W w5) := h5
       clear h5 o5
       go_wp2_with fail
       go_roundw
       case rel => exact ⟨k + 1, zab k, by omega, HW5, zav HK.out HB.out⟩
       case measure => simp [intOf]; omega
     ·have he : nn = k := by omega
      subst he
      go_wp2_with fail
      go_roundw
      case rel => exact ⟨j + 1, zab j, by omega, HWk, zav HJ.out ⟨HIN.out, HLj.out, HK.out⟩⟩
      case measure => simp [intOf]; omega
   ·have HN : Hid (sizeN P Q nb T nb L B = 0) := HNO.out j hlt fun h => hL h.2.1
    rw [hin] at HIj
    have k8 : ¬ (L j : Int) = (nn : Int) := by omega
    clear hin
    go_upto_region 9 with fail
    go_region_held3 (fun w' => w'.cell? ⟨w.heap.size, 0, none⟩ = some (.int .u64 P) /\ w'.cell? ⟨w.heap.size, 1, none⟩ = some (.int .u64 Q) /\ w'.cell? ⟨w.heap.size, 2, none⟩ = some (.int .u64 G) /\ w'.cell? ⟨w.heap.size, 3, none⟩ = some (.int .u64 H) /\ w'.cell? ⟨w.heap.size, 4, none⟩ = some (.slice a n cap) /\ w'.cell? ⟨w.heap.size + 1, 0, none⟩ = some (.slice (some ⟨tb, tof, none⟩) nb ct) /\ w'.cell? ⟨w.heap.size + 1, 1, none⟩ = some (.slice (some ⟨lb, lo, none⟩) nb cb) /\ w'.cell? ⟨tb, tof + j, none⟩ = some (.int .u64 (T j)) /\ w'.cell? ⟨lb, lo + j, none⟩ = some (.slice (BA j) (L j) (C j))) (first | exact HT.out _ h4 | exact HT.out _ HW.out.drew) ((go_at_call 55; refine (HIj.out _).mono ?_; rintro e w4 ⟨rfl, o4⟩; have h4 : Old W w4 := HW.out.drew.trans o4))
    go_wp2_with fail
    go_ret
    exact ⟨by rw [HN.out]; rfl, HW0.out.trans h4⟩
  ·have he : nb = j := by omega
   subst he
   have HN : Hid (sizeN P Q nb T nb L B = nn) := HYES.out HJ.out
   obtain ⟨d0, d1, d2, d3, d4, t0, t1⟩ := HF.out _ (HZ.then HW.out)
   go_wp2_with fail
   go_ret
   exact ⟨by rw [HN.out]; rfl, HW0.out.trans HW.out⟩
end
section
open Go.RowKit
def fitsB (sz nw : Nat) : Bool := decide (sz ≠ 0) && decide (nw = sz)
theorem za1 {sz nw : Nat} : fitsB sz nw = true ↔ sz ≠ 0 /\ nw = sz := by simp [fitsB]
set_option linter.unusedSimpArgs false in
theorem rimage_any (P Q G H : Int) (a : OA) (n cap : Nat) (bt : OA) (nt ct : Nat) (T : NI) (bb : OA) (nb cb : Nat) (BA : Nat -> Option Addr) (L C : Nat -> Nat) (B : NN) (bw : OA) (nw cw : Nat) (X : NI) (w : World) (h4 : Four P Q G H) (hC : ClaimIn w bt nt ct T bb nb cb BA L C B) (hX : FacsIn w bw nw X) :
  Calls prog 133 #[gv P Q G H a n cap, cv bt nt ct bb nb cb, .slice bw nw cw] w (Gives w (fitsB (sizeN P Q nt T nb L B) nw) nt (fun j => imI P Q (B j) X (sizeN P Q nt T nb L B))) := by
 have HZ := lain2 w (gc P Q G H a n cap) (cc bt nt ct bb nb cb) 25 50
 have HF : Hid (∀ w', Lain w [(gc P Q G H a n cap, 25), (cc bt nt ct bb nb cb, 50)] w' -> w'.cell? ⟨w.heap.size, 0, none⟩ = some (.int .u64 P) /\ w'.cell? ⟨w.heap.size, 1, none⟩ = some (.int .u64 Q) /\ w'.cell? ⟨w.heap.size, 2, none⟩ = some (.int .u64 G) /\ w'.cell? ⟨w.heap.size, 3, none⟩ = some (.int .u64 H) /\ w'.cell? ⟨w.heap.size, 4, none⟩ = some (.slice a n cap) /\ w'.cell? ⟨w.heap.size + 1, 0, none⟩ = some (.slice bt nt ct) /\ w'.cell? ⟨w.heap.size + 1, 1, none⟩ = some (.slice bb nb cb)) := fun _ h => ⟨h.cell 0 0 (by simp) rfl, h.cell 0 1 (by simp) rfl, h.cell 0 2 (by simp) rfl, h.cell 0 3 (by simp) rfl, h.cell 0 4 (by simp) rfl, h.cell 1 0 (by simp) rfl, h.cell 1 1 (by simp) rfl⟩
 have HC : Hid (ClaimIn w bt nt ct T bb nb cb BA L C B) := hC
 have HX : Hid (FacsIn w bw nw X) := hX
 have HS : Hid (∀ wx, Old w wx -> Calls prog 150 #[gv P Q G H a n cap, cv bt nt ct bb nb cb] wx fun e w' => e = .returned (.int .i64 (sizeN P Q nt T nb L B : Nat)) /\ Old wx w') := fun wx ho => rsize_any P Q G H a n cap bt nt ct T bb nb cb BA L C B wx h4 (hC.old ho)
 have hcl := zcT (P := P) (Q := Q) (nt := nt) (T := T) (nb := nb) (L := L) (B := B)
 have hle := sizeN_le P Q nt T nb L B
 generalize sizeN P Q nt T nb L B = sz at *
 obtain ⟨E, hE⟩ : ∃ E : Nat -> Nat -> Int, E = fun j i => expI P Q (B j i) (X i) := ⟨_, rfl⟩
 obtain ⟨F, hF⟩ : ∃ F : Nat -> Int, F = fun j => prodI P (E j) sz := ⟨_, rfl⟩
 have h133 : (fun j => imI P Q (B j) X sz) = F := by rw [hF, hE]; rfl
 rw [h133]
 clear h133
 have HEx : Hid (∀ j k wx, U64 (B j k) -> U64 (X k) -> Calls prog 68 #[gv P Q G H a n cap, .int .u64 (B j k), .int .u64 (X k)] wx fun e w' => e = .returned (.int .u64 (E j k)) /\ Old wx w') := fun j k wx hb hx => (rexp_any P Q G H (B j k) (X k) a n cap wx h4.q1 hb.1 hb.2 hx.1 hx.2).mono fun e w' ⟨h, o⟩ => ⟨by rw [h, hE], o⟩
 have HMu : Hid (∀ j k wx, Calls prog 70 #[.int .u64 (prodI P (E j) k), .int .u64 (E j k), .int .u64 P] wx fun e w' => e = .returned (.int .u64 (prodI P (E j) (k + 1))) /\ Old wx w') := fun j k wx => (zbn (prodI P (E j) k) (E j k) P wx (zdd _ _ _).1 (zdd _ _ _).2 (by rw [hE]; exact (zaz _ _ _ _).1) (by rw [hE]; exact (zaz _ _ _ _).2)).mono fun e w' ⟨h, o⟩ => ⟨h, (Old.refl _).draws o⟩
 have HFj : Hid (∀ j, prodI P (E j) sz = F j) := fun j => by rw [hF]
 clear hF hE h4 hC hX
 obtain ⟨i0, hi, hz0, hz1, hz2⟩ := info_parts zbj
 go_enter func133, ntmps133
 go_upto_region 1 with fail
 generalize hW : (w.alloc (.cells (gc P Q G H a n cap) 25)).alloc (.cells (cc bt nt ct bb nb cb) 50) = W at *
 clear hW
 have HW0 : Hid (Old w W) := HZ.old
 obtain ⟨d0, d1, d2, d3, d4, t0, t1⟩ := HF.out _ HZ
 go_upto_region 2 with (go_at_call 150; refine (HS.out _ HW0.out).mono ?_; rintro e w2 ⟨rfl, h2⟩)
 clear HS d0 d1 d2 d3 d4 t0 t1
 by_cases hs0 : sz = 0
 ·have HN : Hid (fitsB sz nw = false) := no_of fun h => (za1.1 h).1 hs0
  have k1 : (sz : Int) = 0 := by omega
  clear hcl hs0
  go_wp2_with fail
  go_ret2
  exact zdf HN.out (HW0.out.trans h2)
 by_cases hnw : nw = sz
 ·have hcl := hcl hs0
  subst hnw
  have HN : Hid (fitsB nw nw = true) := za1.2 ⟨hs0, rfl⟩
  rcases HC.out.bas with h0 | ⟨lb, lo, hqb, _, hrb⟩
  ·have := hcl.t1; have := hcl.nb; omega
  subst hqb
  rcases HX.out with h0 | ⟨xb, xo, hqx, _, hrx⟩
  ·omega
  subst hqx
  have HRB : Hid (∀ j, j < nt -> ∀ w', Old w w' -> w'.cell? ⟨lb, lo + j, none⟩ = some (.slice (BA j) nw (C j))) := fun j hj w' ho => by
   have := (hrb j (by have := hcl.nb; omega)).1
   rw [hcl.len j hj] at this
   exact ho.cellOf this
  have HRF : Hid (∀ j, j < nt -> FacsIn w (BA j) nw (B j)) := fun j hj => by
   have := (hrb j (by have := hcl.nb; omega)).2.2.2
   rwa [hcl.len j hj] at this
  have HRX : Hid (∀ k, k < nw -> ∀ w', Old w w' -> w'.cell? ⟨xb, xo + k, none⟩ = some (.int .u64 (X k))) := fun k hk w' ho => ho.cellOf (hrx k hk).1
  have HXU : Hid (∀ k, k < nw -> U64 (X k)) := fun k hk => (hrx k hk).2
  have hnt := hcl.t64
  have hnb := hcl.nb
  have k1 : ¬ (nw : Int) = 0 := by omega
  have k3 : ((nw : Int) == 0) = false := by simp; omega
  have HW2 : Hid (Old W w2) := h2
  clear hrb hrx hcl h2
  subst hnb
  go_wp2_with fail
  go_loopw [9, 10] (fun v jv wx => ∃ j : Nat, jv = .int .i64 (j : Int) /\ j <= nb /\ Hid (Nums wx W.heap.size v j F) /\ Hid (Old W wx)) (fun _ jv _ => nb - (intOf jv).toNat)
  case atStart => exact ⟨0, rfl, Nat.zero_le _, zaD _ _ _, HW2⟩
  case round =>
   obtain ⟨j, rfl, hj, HNu, HW⟩ := hrel
   by_cases hlt : j < nb
   ·rcases HRF.out j hlt with h0 | ⟨rb, ro, hq, _, hr⟩
    ·omega
    have HRR : Hid (∀ k, k < nw -> ∀ w', Old w w' -> w'.cell? ⟨rb, ro + k, none⟩ = some (.int .u64 (B j k))) := fun k hk w' ho => ho.cellOf (hr k hk).1
    have HRU : Hid (∀ k, k < nw -> U64 (B j k)) := fun k hk => (hr k hk).2
    have HL : Hid (∀ w', Old w w' -> w'.cell? ⟨lb, lo + j, none⟩ = some (.slice (some ⟨rb, ro, none⟩) nw (C j))) := fun w' ho => by rw [<- hq]; exact HRB.out j hlt w' ho
    clear hr hq
    obtain ⟨wo, hwo⟩ : ∃ x : World, x = wr := ⟨_, rfl⟩
    have HOo : Hid (Old wo wr) := by rw [hwo]; exact Old.refl _
    rw [<- hwo] at HNu HW
    have HWr : Hid (Old W wr) := by rw [<- hwo]; exact HW
    clear hwo
    obtain ⟨d0, d1, d2, d3, d4, t0, t1⟩ := HF.out _ (HZ.then HWr.out)
    go_wp2_with fail
    clear d0 d1 d2 d3 d4 t0 t1
    go_loopw [11, 12] (fun xv kv wx => ∃ k : Nat, kv = .int .i64 (k : Int) /\ k <= nw /\ xv = .int .u64 (prodI P (E j) k) /\ Hid (Old wo wx)) (fun _ kv _ => nw - (intOf kv).toNat)
    case atStart => exact ⟨0, rfl, Nat.zero_le _, rfl, HOo⟩
    case round =>
     obtain ⟨k, rfl, hk, rfl, HOk⟩ := hrel
     by_cases hlk : k < nw
     ·have HT : Hid (∀ w', Old W w' -> w'.cell? ⟨w.heap.size, 0, none⟩ = some (.int .u64 P) /\ w'.cell? ⟨w.heap.size, 1, none⟩ = some (.int .u64 Q) /\ w'.cell? ⟨w.heap.size, 2, none⟩ = some (.int .u64 G) /\ w'.cell? ⟨w.heap.size, 3, none⟩ = some (.int .u64 H) /\ w'.cell? ⟨w.heap.size, 4, none⟩ = some (.slice a n cap) /\ w'.cell? ⟨w.heap.size + 1, 0, none⟩ = some (.slice bt nb ct) /\ w'.cell? ⟨w.heap.size + 1, 1, none⟩ = some (.slice (some ⟨lb, lo, none⟩) nb cb) /\ w'.cell? ⟨lb, lo + j, none⟩ = some (.slice (some ⟨rb, ro, none⟩) nw (C j)) /\ w'.cell? ⟨rb, ro + k, none⟩ = some (.int .u64 (B j k)) /\ w'.cell? ⟨xb, xo + k, none⟩ = some (.int .u64 (X k))) := fun w' ho => by
       obtain ⟨d0, d1, d2, d3, d4, t0, t1⟩ := HF.out _ (HZ.then ho)
       exact ⟨d0, d1, d2, d3, d4, t0, t1, HL.out _ (HW0.out.trans ho), HRR.out k hlk _ (HW0.out.trans ho), HRX.out k hlk _ (HW0.out.trans ho)⟩
      have HWk : Hid (Old W wr) := HW.out.trans HOk.out
      obtain ⟨d0, d1, d2, d3, d4, t0, t1, cl, cb1, cx⟩ := HT.out _ HWk.out
      have HE1 : Hid (∀ wx, Calls prog 68 #[gv P Q G H a n cap, .int .u64 (B j k), .int .u64 (X k)] wx fun e w' => e = .returned (.int .u64 (E j k)) /\ Old wx w') := fun wx => HEx.out j k wx (HRU.out k hlk) (HXU.out k hlk)
      have HM1 : Hid (∀ wx, Calls prog 70 #[.int .u64 (prodI P (E j) k), .int .u64 (E j k), .int .u64 P] wx fun e w' => e = .returned (.int .u64 (prodI P (E j) (k + 1))) /\ Old wx w') := fun wx => HMu.out j k wx
      have k9 : (j : Int) < (nb : Int) := by omega
      obtain ⟨x1, hx1⟩ : ∃ x1 : Int, x1 = prodI P (E j) (k + 1) := ⟨_, rfl⟩
      rw [<- hx1] at HM1
      have HV1 : Hid (Value.int .u64 x1 = .int .u64 (prodI P (E j) (k + 1))) := by rw [hx1]; exact rfl
      clear hx1
      go_upto_region 12 with fail
      go_region_held3 (fun w' => w'.cell? ⟨w.heap.size, 0, none⟩ = some (.int .u64 P) /\ w'.cell? ⟨w.heap.size, 1, none⟩ = some (.int .u64 Q) /\ w'.cell? ⟨w.heap.size, 2, none⟩ = some (.int .u64 G) /\ w'.cell? ⟨w.heap.size, 3, none⟩ = some (.int .u64 H) /\ w'.cell? ⟨w.heap.size, 4, none⟩ = some (.slice a n cap) /\ w'.cell? ⟨w.heap.size + 1, 0, none⟩ = some (.slice bt nb ct) /\ w'.cell? ⟨w.heap.size + 1, 1, none⟩ = some (.slice (some ⟨lb, lo, none⟩) nb cb) /\ w'.cell? ⟨lb, lo + j, none⟩ = some (.slice (some ⟨rb, ro, none⟩) nw (C j)) /\ w'.cell? ⟨rb, ro + k, none⟩ = some (.int .u64 (B j k)) /\ w'.cell? ⟨xb, xo + k, none⟩ = some (.int .u64 (X k))) (first | exact HT.out _ h5 | exact HT.out _ h4 | exact HT.out _ HWk.out.drew) (first
       | (go_at_call 68; refine (HE1.out _).mono ?_; rintro e w4 ⟨rfl, o4⟩; have h4 : Old W w4 := HWk.out.drew.trans o4)
       | (go_at_call 70; refine (HM1.out _).mono ?_; rintro e w5 ⟨rfl, o5⟩; have h5 : Old W w5 := h4.trans o5; have HO5 : Hid (Old wo w5) := (HOk.out.drew.trans o4).trans o5))
      go_wp2_with fail
      go_roundw
      case rel => exact ⟨k + 1, zab k, by omega, HV1.out, HO5⟩
      case measure => simp [intOf]; omega
     ·have he : nw = k := by omega
      subst he
      have hown := HNu.out.old HOk.out
      have hWk : Old W wr := HW.out.trans HOk.out
      have hs4 := hWk.size
      have HV : Hid (prodI P (E j) nw = F j) := HFj.out j
      generalize prodI P (E j) nw = xf at *
      go_wp2_with (at_builtin; refine wpList_append_own _ rfl _ _ 29 rfl W.heap.size 22 i0 (.int .u64 0) 1 8 underlying29 hi hz0 hz1 hz2 rfl (by decide) _ _ _ rfl (World.ownsRow.alloc hown _) ⟨wr.heap.size, 0, none⟩ 1 1 [.int .u64 xf] rfl rfl ?c1 ?c2 ?c3 ?c4 ?c5 ?_)
      case c1 => exact cell_one_new _ _ _
      case c2 => intro u hu; simp at hu; subst hu; rfl
      case c3 => unfold maxLen; omega
      case c4 => omega
      case c5 => simp; omega
      intro v' w5 hown' hgrow _
      have HN5 : Hid (Nums w5 W.heap.size v' (j + 1) F) := Nums.app hown' HV.out.symm
      have HW5 : Hid (Old W w5) := Nums.grown hown hWk hgrow
      clear hown' hgrow hown hWk
      go_wp2
      go_roundw
      case rel => exact ⟨j + 1, zab j, by omega, HN5, HW5⟩
      case measure => simp [intOf]; omega
   ·have he : nb = j := by omega
    subst he
    obtain ⟨d0, d1, d2, d3, d4, t0, t1⟩ := HF.out _ (HZ.then HW.out)
    go_wp2_with fail
    go_ret2
    exact zc5 HN.out (HNu.out.mono HW0.out.size) (HW0.out.trans HW.out)
 ·have HN : Hid (fitsB sz nw = false) := no_of fun h => hnw (za1.1 h).2
  have k1 : ¬ (sz : Int) = 0 := by omega
  have k2 : ¬ (nw : Int) = (sz : Int) := by omega
  have k3 : ((sz : Int) == 0) = false := by simp; omega
  have k4 : ((nw : Int) != (sz : Int)) = true := by simp; omega
  have k5 : ((nw : Int) == (sz : Int)) = false := by simp; omega
  clear hcl hs0
  go_wp2_with fail
  go_ret2
  exact zdf HN.out (HW0.out.trans h2)
end
section
open Go.RowKit
def holdsL (P Q : Int) (nt : Nat) (T : NI) (nb : Nat) (L : Nat -> Nat) (B : NN) (nz : Nat) (X : NI) : Bool :=
 fitsB (sizeN P Q nt T nb L B) nz && sameB nt (fun j => imI P Q (B j) X (sizeN P Q nt T nb L B)) nt T
def accB (P Q : Int) (nt : Nat) (T : NI) (nb : Nat) (L : Nat -> Nat) (B : NN) (nk : Nat) (K : NI) (ch : Int) (nz : Nat) (X : NI) : Bool :=
 fitsB (sizeN P Q nt T nb L B) nz && (decide (nk = nt) && (List.range nt).all fun j => inI P Q (K j) && (imI P Q (B j) X (sizeN P Q nt T nb L B) == mulI (K j) (expI P Q (T j) ch) P))
theorem zdQ {P Q : Int} {nt : Nat} {T : NI} {nb : Nat} {L : Nat -> Nat} {B : NN} {nk : Nat} {K : NI} {ch : Int} {nz : Nat} {X : NI} :
  accB P Q nt T nb L B nk K ch nz X = true ↔ fitsB (sizeN P Q nt T nb L B) nz = true /\ nk = nt /\ ∀ j, j < nt -> inI P Q (K j) = true /\ imI P Q (B j) X (sizeN P Q nt T nb L B) = mulI (K j) (expI P Q (T j) ch) P := by
 simp [accB]
end
section
open Go.RowKit
def LensIn (w : World) (a : OA) (n : Nat) (LA : Nat -> Option Addr) (M C : Nat -> Nat) : Prop :=
 n = 0 ∨ ∃ b off, a = some ⟨b, off, none⟩ /\ b < w.heap.size /\ ∀ i, i < n -> w.cell? ⟨b, off + i, none⟩ = some (.slice (LA i) (M i) (C i))
end
section
open Go.RowKit
theorem zbS : (prog.info? 50).map (·.size) = some 2 := by kernel_rfl
theorem zay {P : Program} {fn : Func} {p u : Tmp} {t : TypeId} {tmps : Array Value} {w : World} {b : Nat} {v x : Value} (h : fn.results = #[.cell p t, .tmp u]) (hp : tmps.getD p undef = .pointer (some ⟨b, 0, none⟩)) (hu : tmps.getD u undef = x) (hl : (loadVar t ⟨b, 0, none⟩).run P w = .ok v w) :
  (results fn tmps).run P w = .ok (.tuple #[v, x]) w := by
 rw [results_cell_tmp h, hp, hu]
 simp [asAddr, hl, Result.andThen]
theorem Nums.facs2 {w : World} {base k : Nat} {v : Value} {F : NI} (h : Nums w base v k F) (hF : ∀ i, i < k -> U64 (F i)) : ∃ b c, v = .slice b k c /\ k <= c /\ c <= 9223372036854775807 /\ FacsIn w b k F := by
 have hm : ∀ b c, v = .slice b k c -> c <= 9223372036854775807 := fun b c e => by
  rcases h.2 with ⟨e2, _⟩ | ⟨g, cap, cur, e2, _, _, _, hm, _⟩
  ·rw [e] at e2
   cases e2
   omega
  ·rw [e] at e2
   cases e2
   unfold maxLen at hm
   omega
 obtain ⟨b, c, e, h1, h2⟩ := h.facs hF
 exact ⟨b, c, e, h1, hm b c e, h2⟩
structure Cl (W : World) (bb : OA) (nb cb : Nat) (v : Value) (i : Nat) (wx : World) : Prop where
 old : Old W wx
 row : wx.heap[W.heap.size]? = some (.cells #[v, .slice bb nb cb] 50 (0, 0))
 nums : Nums wx (W.heap.size + 1) v i (fun _ => 1)
end
section
open Go.RowKit
theorem Righ.im_is8 {P Q G z : Int} (h : Righ P Q G) {B X : NI} (n : Nat) (hB : ∀ k, k < n -> inI P Q (B k) = true) (hX : ∀ k, k < n -> 0 <= X k) (hz : inI P Q z = true) (hc : pw B X n % P = z % P) : imI P Q B X n = z := h.same (h.im_in n hB) hz ((h.im_cong n hB hX).trans hc)
theorem right_h {P Q G H : Int} {N A : NI} {F : NN} {L : Nat -> Nat} {n : Nat} (h : zbV P Q G H N A F L n = true) : inI P Q H = true := by
 unfold zbV at h
 simp only [Bool.and_eq_true, decide_eq_true_eq, beq_iff_eq] at h
 exact h.1.1.1.2
theorem zdS {B C E F : NI} : ∀ n, (∀ k, k < n -> B k = C k /\ E k = F k) -> pw B E n = pw C F n
 | 0, _ => rfl
 | n + 1, h => by
  show pw B E n * B n ^ (E n).toNat = pw C F n * C n ^ (F n).toNat
  rw [zdS n fun k hk => h k (by omega), (h n (by omega)).1, (h n (by omega)).2]
theorem pw_add (B E : NI) (m : Nat) : ∀ k, pw B E (m + k) = pw B E m * pw (fun i => B (m + i)) (fun i => E (m + i)) k
 | 0 => by show pw B E m = pw B E m * 1; rw [Int.mul_one]
 | k + 1 => by
  show pw B E (m + k) * B (m + k) ^ (E (m + k)).toNat = pw B E m * (pw (fun i => B (m + i)) (fun i => E (m + i)) k * B (m + k) ^ (E (m + k)).toNat)
  rw [pw_add B E m k, Int.mul_assoc]
theorem pw_ones {B E : NI} : ∀ n, (∀ k, k < n -> B k = 1) -> pw B E n = 1
 | 0, _ => rfl
 | n + 1, h => by
  show pw B E n * B n ^ (E n).toNat = 1
  rw [pw_ones n fun k hk => h k (by omega), h n (by omega), Int.one_pow, Int.mul_one]
theorem pw_row1 {B E : NI} {p : Nat} : ∀ n, p < n -> (∀ k, k < n -> k ≠ p -> B k = 1) -> pw B E n = B p ^ (E p).toNat
 | 0, h, _ => by omega
 | n + 1, h, hB => by
  show pw B E n * B n ^ (E n).toNat = _
  by_cases hp : p = n
  ·subst hp
   rw [pw_ones p fun k hk => hB k (by omega) (by omega), Int.one_mul]
  ·rw [pw_row1 n (by omega) fun k hk hne => hB k (by omega) hne, hB n (by omega) (by omega), Int.one_pow, Int.mul_one]
theorem pw_row2 {B E : NI} {p q : Nat} (hpq : p < q) : ∀ n, q < n -> (∀ k, k < n -> k ≠ p -> k ≠ q -> B k = 1) -> pw B E n = B p ^ (E p).toNat * B q ^ (E q).toNat
 | 0, h, _ => by omega
 | n + 1, h, hB => by
  show pw B E n * B n ^ (E n).toNat = _
  by_cases hq : q = n
  ·subst hq
   rw [pw_row1 q hpq fun k hk hne => hB k (by omega) hne (by omega)]
  ·rw [pw_row2 hpq n (by omega) fun k hk h1 h2 => hB k (by omega) h1 h2, hB n (by omega) (by omega) (by omega), Int.one_pow, Int.mul_one]
theorem pw_span {B E : NI} {m n q N : Nat} (hq : m + n <= q) (hN : q < N) (hB : ∀ k, k < N -> (k < m ∨ m + n <= k) -> k ≠ q -> B k = 1) : pw B E N = pw (fun i => B (m + i)) (fun i => E (m + i)) n * B q ^ (E q).toNat := by
 obtain ⟨r, rfl⟩ : ∃ r, N = m + n + r := ⟨N - (m + n), by omega⟩
 rw [pw_add B E (m + n) r, pw_add B E m n, pw_ones m (fun k hk => hB k (by omega) (Or.inl hk) (by omega)), Int.one_mul]
 congr 1
 have h := pw_row1 (B := fun i => B (m + n + i)) (E := fun i => E (m + n + i)) (p := q - (m + n)) r (by omega) (fun k hk hne => hB (m + n + k) (by omega) (Or.inr (by omega)) (by omega))
 rw [h]
 have e : m + n + (q - (m + n)) = q := by omega
 simp only [e]
def comI (P Q G H m r : Int) : Int := mulI (expI P Q G m) (expI P Q H r) P
theorem Righ.com {P Q G H m r : Int} (h : Righ P Q G) (hH : inI P Q H = true) (hm : 0 <= m) (hr : 0 <= r) : inI P Q (comI P Q G H m r) = true /\ comI P Q G H m r % P = G ^ m.toNat * H ^ r.toNat % P :=
 ⟨h.mul_in (h.exp_in h.gin) (h.exp_in hH), zbd h.ok (h.exp_cong h.gin hm) (h.exp_cong hH hr)⟩
theorem Righ.pow_mod {P Q G x : Int} (h : Righ P Q G) (hx : inI P Q x = true) {a b : Int} (ha : 0 <= a) (hb : 0 <= b) (hab : a % Q = b % Q) : x ^ a.toNat % P = x ^ b.toNat % P := by
 rw [<- h.exp_cong hx ha, <- h.exp_cong hx hb, exp_mod hab]
def bigI (P Q G A B Y Z : Int) : Int := overI P (mulI (expI P Q A Y) B P) (expI P Q G Z)
theorem Righ.big {P Q G H a r b s Y Z : Int} (h : Righ P Q G) (hH : inI P Q H = true) (ha : 0 <= a) (hr : 0 <= r) (hb : 0 <= b) (hs : 0 <= s) (hY : 0 <= Y) (hZ : 0 <= Z) {d u : Int} (hd0 : 0 <= d) (hu0 : 0 <= u) (hd : (d + Z) % Q = (Y * a + b) % Q) (hu : u % Q = (Y * r + s) % Q) :
  inI P Q (bigI P Q G (comI P Q G H a r) (comI P Q G H b s) Y Z) = true /\ bigI P Q G (comI P Q G H a r) (comI P Q G H b s) Y Z % P = G ^ d.toNat * H ^ u.toNat % P := by
 have cA := h.com hH ha hr
 have cB := h.com hH hb hs
 have hG := h.exp_in h.gin (e := Z)
 have hM : inI P Q (mulI (expI P Q (comI P Q G H a r) Y) (comI P Q G H b s) P) = true := h.mul_in (h.exp_in cA.1) cB.1
 refine ⟨h.over_in hM hG, ?_⟩
 refine h.cancel hG ?_
 unfold bigI
 rw [h.over_cong hG, zbd h.ok ((h.exp_cong cA.1 hY).trans (zaT cA.2 _)) cB.2]
 have e1 : G ^ d.toNat * H ^ u.toNat * expI P Q G Z % P = G ^ d.toNat * H ^ u.toNat * G ^ Z.toNat % P := zan rfl (h.exp_cong h.gin hZ)
 rw [e1]
 have e2 : G ^ d.toNat * H ^ u.toNat * G ^ Z.toNat = G ^ (d + Z).toNat * H ^ u.toNat := by
  rw [Int.toNat_add hd0 hZ, Int.pow_add]
  simp only [Int.mul_assoc, Int.mul_comm]
 have e3 : (G ^ a.toNat * H ^ r.toNat) ^ Y.toNat * (G ^ b.toNat * H ^ s.toNat) = G ^ (Y * a + b).toNat * H ^ (Y * r + s).toNat := by
  rw [Int.toNat_add (Int.mul_nonneg hY ha) hb, Int.toNat_add (Int.mul_nonneg hY hr) hs, Int.toNat_mul hY ha, Int.toNat_mul hY hr, Int.pow_add, Int.pow_add, Int.mul_pow, <- Int.pow_mul, <- Int.pow_mul, Nat.mul_comm a.toNat, Nat.mul_comm r.toNat]
  simp only [Int.mul_assoc, Int.mul_comm, Int.mul_left_comm]
 rw [e2, e3]
 exact zan (h.pow_mod h.gin (Int.add_nonneg (Int.mul_nonneg hY ha) hb) (Int.add_nonneg hd0 hZ) hd.symm) (h.pow_mod hH (Int.add_nonneg (Int.mul_nonneg hY hr) hs) hu0 hu.symm)
theorem Righ.third {P Q G H p d t x v : Int} (h : Righ P Q G) (hH : inI P Q H = true) (hp : inI P Q p = true) (hd : 0 <= d) (ht : 0 <= t) (hx : 0 <= x) (hv : 0 <= v) (hpx : p % P = G ^ x.toNat * H ^ v.toNat % P) {v' : Int} (hv' : 0 <= v') (hvq : v' % Q = (v * d + t) % Q) :
  inI P Q (mulI (expI P Q p d) (expI P Q H t) P) = true /\ mulI (expI P Q p d) (expI P Q H t) P % P = G ^ (x * d).toNat * H ^ v'.toNat % P := by
 refine ⟨h.mul_in (h.exp_in hp) (h.exp_in hH), ?_⟩
 rw [zbd h.ok ((h.exp_cong hp hd).trans (zaT hpx _)) (h.exp_cong hH ht)]
 have e : (G ^ x.toNat * H ^ v.toNat) ^ d.toNat * H ^ t.toNat = G ^ (x * d).toNat * H ^ (v * d + t).toNat := by
  rw [Int.toNat_add (Int.mul_nonneg hv hd) ht, Int.toNat_mul hx hd, Int.toNat_mul hv hd, Int.pow_add, Int.mul_pow, <- Int.pow_mul, <- Int.pow_mul, Int.mul_assoc]
 rw [e]
 exact zan rfl (h.pow_mod hH (Int.add_nonneg (Int.mul_nonneg hv hd) ht) hv' hvq.symm)
theorem Righ.row2 {P Q G z : Int} (h : Righ P Q G) {B E : NI} {p q N : Nat} (hpq : p < q) (hq : q < N) (hB : ∀ k, k < N -> k ≠ p -> k ≠ q -> B k = 1) (hp : inI P Q (B p) = true) (hq1 : inI P Q (B q) = true) (hE : ∀ k, k < N -> 0 <= E k) (hz : inI P Q z = true) (hc : B p ^ (E p).toNat * B q ^ (E q).toNat % P = z % P) : imI P Q B E N = z := by
 refine h.im_is8 N (fun k hk => ?_) hE hz (by rw [pw_row2 hpq N hq hB]; exact hc)
 by_cases h1 : k = p
 ·rw [h1]; exact hp
 ·by_cases h2 : k = q
  ·rw [h2]; exact hq1
  ·rw [hB k hk h1 h2]; exact h.one_in
theorem Righ.row1 {P Q G z : Int} (h : Righ P Q G) {B E : NI} {p N : Nat} (hp : p < N) (hB : ∀ k, k < N -> k ≠ p -> B k = 1) (hp1 : inI P Q (B p) = true) (hE : ∀ k, k < N -> 0 <= E k) (hz : inI P Q z = true) (hc : B p ^ (E p).toNat % P = z % P) : imI P Q B E N = z := by
 refine h.im_is8 N (fun k hk => ?_) hE hz (by rw [pw_row1 N hp hB]; exact hc)
 by_cases h1 : k = p
 ·rw [h1]; exact hp1
 ·rw [hB k hk h1]; exact h.one_in
theorem Righ.last {P Q G H p x k v : Int} (h : Righ P Q G) (hp : inI P Q p = true) (hx : 0 <= x) (hk : 0 <= k) (hpx : p % P = G ^ x.toNat * H ^ v.toNat % P) (hxk : x % Q = k % Q) :
  inI P Q (overI P p (expI P Q G k)) = true /\ H ^ v.toNat % P = overI P p (expI P Q G k) % P := by
 have hG := h.exp_in h.gin (e := k)
 refine ⟨h.over_in hp hG, h.cancel hG ?_⟩
 rw [h.over_cong hG, hpx]
 have e1 : H ^ v.toNat * expI P Q G k % P = H ^ v.toNat * G ^ k.toNat % P := zan rfl (h.exp_cong h.gin hk)
 rw [e1, Int.mul_comm]
 exact zan (h.pow_mod h.gin hk hx hxk.symm) rfl
def sumI8 (F : NI) : Nat -> Int
 | 0 => 0
 | n + 1 => sumI8 F n + F n
theorem sumI8_nn {F : NI} : ∀ n, (∀ i, i < n -> 0 <= F i) -> 0 <= sumI8 F n
 | 0, _ => Int.le_refl _
 | n + 1, h => Int.add_nonneg (sumI8_nn n fun i hi => h i (by omega)) (h n (by omega))
theorem pw_fold (U c : NI) : ∀ n, pw U c n = foldN (· * ·) 1 (fun i => U i ^ (c i).toNat) n
 | 0 => rfl
 | n + 1 => by
  show pw U c n * U n ^ (c n).toNat = foldN (· * ·) 1 (fun i => U i ^ (c i).toNat) n * U n ^ (c n).toNat
  rw [pw_fold U c n]
theorem pw_order {n : Nat} {o : Nat -> Nat} (ho : Ord8 n o) (U c : NI) : pw (fun i => U (o i)) (fun i => c (o i)) n = pw U c n := by
 rw [pw_fold, pw_fold]
 exact Ord8.fold Int.mul_assoc Int.mul_comm (fun j => U j ^ (c j).toNat) n o ho
theorem pw_again {P y : Int} {V W c r : NI} : ∀ n, (∀ i, i < n -> 0 <= c i) -> (∀ i, i < n -> 0 <= r i) -> (∀ i, i < n -> W i % P = V i * y ^ (r i).toNat % P) -> pw W c n % P = pw V c n * y ^ (sumI8 (fun i => c i * r i) n).toNat % P
 | 0, _, _, _ => by show (1 : Int) % P = 1 * y ^ (0 : Int).toNat % P; rw [show (0 : Int).toNat = 0 from rfl, Int.pow_zero, Int.mul_one]
 | n + 1, hc, hr, hW => by
  show pw W c n * W n ^ (c n).toNat % P = pw V c n * V n ^ (c n).toNat * y ^ (sumI8 (fun i => c i * r i) n + c n * r n).toNat % P
  have ih := pw_again n (fun i hi => hc i (by omega)) (fun i hi => hr i (by omega)) (fun i hi => hW i (by omega))
  have hs := sumI8_nn (F := fun i => c i * r i) n fun i hi => Int.mul_nonneg (hc i (by omega)) (hr i (by omega))
  have hcn := hc n (by omega)
  have hrn := hr n (by omega)
  rw [zan ih (zaT (hW n (by omega)) _), Int.toNat_add hs (Int.mul_nonneg hcn hrn), Int.toNat_mul hcn hrn, Int.pow_add, Int.mul_pow, <- Int.pow_mul, Nat.mul_comm (r n).toNat]
  congr 1
  simp only [Int.mul_assoc, Int.mul_comm, Int.mul_left_comm]
theorem Righ.mixed {P Q G y : Int} (h : Righ P Q G) (hy : inI P Q y = true) {n : Nat} {o : Nat -> Nat} (ho : Ord8 n o) {U W c r : NI} (hc : ∀ j, j < n -> 0 <= c j) (hr : ∀ i, i < n -> 0 <= r i) (hW : ∀ i, i < n -> W i % P = U (o i) * y ^ (r i).toNat % P) {e : Int} (he : 0 <= e) (hsum : (sumI8 (fun i => c (o i) * r i) n + e) % Q = 0) :
  pw W (fun i => c (o i)) n * y ^ e.toNat % P = pw U c n % P := by
 have hs := sumI8_nn (F := fun i => c (o i) * r i) n fun i hi => Int.mul_nonneg (hc _ (ho.lt i hi)) (hr i hi)
 have h1 := pw_again (V := fun i => U (o i)) (W := W) (c := fun i => c (o i)) (r := r) (y := y) n (fun i hi => hc _ (ho.lt i hi)) hr hW
 rw [zan h1 rfl, Int.mul_assoc, <- Int.pow_add, <- Int.toNat_add hs he, pw_order ho]
 have h2 : y ^ (sumI8 (fun i => c (o i) * r i) n + e).toNat % P = y ^ (0 : Int).toNat % P := h.pow_mod hy (Int.add_nonneg hs he) (Int.le_refl _) (by rw [hsum]; rfl)
 rw [zan rfl h2, show (0 : Int).toNat = 0 from rfl, Int.pow_zero, Int.mul_one]
theorem pr_fold (F : NI) : ∀ n, pr F n = foldN (· * ·) 1 F n
 | 0 => rfl
 | n + 1 => by
  show pr F n * F n = foldN (· * ·) 1 F n * F n
  rw [pr_fold F n]
theorem pr_nn {F : NI} : ∀ n, (∀ i, i < n -> 0 <= F i) -> 0 <= pr F n
 | 0, _ => by show (0 : Int) <= 1; omega
 | n + 1, h => Int.mul_nonneg (pr_nn n fun i hi => h i (by omega)) (h n (by omega))
theorem Righ.prod_order {P Q G : Int} (h : Righ P Q G) {n : Nat} {o : Nat -> Nat} (ho : Ord8 n o) (F : NI) : pr (fun i => F (o i)) n % Q = prodI Q F n % Q := by
 rw [prod_cong h.okq, pr_fold, pr_fold]
 rw [Ord8.fold Int.mul_assoc Int.mul_comm F n o ho]
end
section
open Go.RowKit
theorem zfk : (prog.info? 5).map (fun i => (i.zero, i.size, i.bytes)) = some (some (.int .u8 0), 1, 1) := by kernel_rfl
def zbl (n : Int) (i : Nat) : Int := n / 2 ^ (8 * i) % 256
def zaY (n : Int) (k j : Nat) : List Int := (List.range j).map fun t => zbl n (k - 1 - t)
def zap (n : Int) (k : Nat) : List Int := zaY n k k
theorem zcP (n : Int) (k j : Nat) : zaY n k (j + 1) = zaY n k j ++ [zbl n (k - 1 - j)] := by
 simp [zaY, List.range_succ]
theorem zdC (n : Int) (k j : Nat) : (zaY n k j).length = j := by simp [zaY]
theorem own_from {w : World} {base : Nat} {e : TypeId} {size : Nat} {v : Value} {n : Nat} {xs : List Value} (h : w.ownsRow base e size v n xs) : ∀ k, v.ownBlock = some k -> base <= k := by
 intro k hk
 rcases h.2 with ⟨rfl, _⟩ | ⟨g, cap, cur, rfl, hg, _⟩
 ·simp [Value.ownBlock] at hk
 ·simp [Value.ownBlock] at hk
  omega
theorem below_app {W w w' : World} {e : TypeId} {size : Nat} {v : Value} {n : Nat} {xs : List Value} {o : Obj} (hb : Below W.heap.size W w) (ho : w.ownsRow W.heap.size e size v n xs) (hg : (w.alloc o).grownBy w' v.ownBlock) : Below W.heap.size W w' :=
 (hb.alloc hb.size o).grown hg (Nat.le_trans hb.size (by simp)) (own_from ho)
theorem own_cells {w : World} {base : Nat} {e : TypeId} {v : Value} {n : Nat} {xs : List Value} (h : w.ownsRow base e 1 v n xs) (hn : 0 < n) : ∃ g cap, v = .slice (some ⟨g, 0, none⟩) n cap /\ base <= g /\ g < w.heap.size /\ n <= cap /\ ∀ i, i < n -> w.cell? ⟨g, i, none⟩ = xs[i]? := by
 have h' := h
 rcases h.2 with ⟨_, h0⟩ | ⟨g, cap, cur, rfl, hg, hh, hc, _⟩
 ·omega
 ·refine ⟨g, cap, rfl, hg, ?_, hc, fun i hi => h'.cellAt i (by omega)⟩
  refine Classical.byContradiction fun hc' => ?_
  have : w.heap[g]? = none := by simp; omega
  rw [this] at hh
  cases hh
theorem zcd (n : Int) (k : Nat) (w : World) (_n0 : 0 <= n) (_n1 : n <= 18446744073709551615) (hk : k <= 8) (hk0 : 0 < k) :
  Calls prog 148 #[.int .u64 n, .int .i64 (k : Int)] w fun e w' => e = .returned (.string (strOfNums (zap n k))) /\ Below w.heap.size w w' := by
 obtain ⟨i0, hi, hz0, hz1, hz2⟩ := info_parts zfk
 go_enter func148, ntmps148
 go_wp2_with fail
 go_loopw [5, 6] (fun v iv wr => ∃ j r : Nat, j + r = k /\ iv = .int .i64 ((r : Int) - 1) /\ wr.ownsRow w.heap.size 5 1 v j ((zaY n k j).map (Value.int .u8)) /\ Below w.heap.size w wr) (fun _ iv _ => (intOf iv + 1).toNat)
 case atStart => exact ⟨0, k, by omega, rfl, World.ownsRow_nil _ _ _ _, Below.refl _ _⟩
 case round =>
  obtain ⟨j, r, hjr, rfl, hown, hbel⟩ := hrel
  cases r with
  | zero =>
   obtain rfl : j = k := by omega
   obtain ⟨g, cap, rfl, _, _, _, hc⟩ := own_cells hown hk0
   have hcv := run_convert_bytes_arg wr 152 5 underlying152 underlying5 g 0 j cap (zaY n j j) (zdC ..) (fun i hi => by
    rw [Nat.zero_add, hc i hi, List.getElem?_map, List.getD, List.getElem?_eq_getElem (by rw [zdC]; exact hi)]
    rfl) 9 underlying9
   clear hc
   go_wp2
   go_ret
   exact ⟨rfl, hbel⟩
  | succ q =>
   have eq : ((q + 1 : Nat) : Int) - 1 = (q : Int) := by omega
   simp only [eq]
   clear eq
   have hs := hbel.size
   go_wp2_with (at_builtin; refine wpList_append_own _ rfl _ _ 152 rfl w.heap.size 5 i0 (.int .u8 0) 1 1 underlying152 hi hz0 hz1 hz2 rfl (by decide) _ _ _ rfl (hown.alloc _) ⟨wr.heap.size, 0, none⟩ 1 1 [.int .u8 (zbl n q)] rfl rfl ?c1 ?c2 ?c3 ?c4 ?c5 ?_)
   case c1 => exact cell_one_new _ _ _
   case c2 => intro u hu; simp at hu; subst hu; rfl
   case c3 => unfold maxLen; omega
   case c4 => omega
   case c5 => simp; omega
   intro v' w1 hown' hgrow _
   have hb1 := below_app hbel hown hgrow
   have ho1 : w1.ownsRow w.heap.size 5 1 v' (j + 1) ((zaY n k (j + 1)).map (Value.int .u8)) := by
    rw [zcP, List.map_append, show k - 1 - j = q by omega]
    exact hown'
   clear hown' hgrow hown hbel
   go_wp2
   go_roundw
   case rel => exact ⟨j + 1, q, by omega, rfl, ho1, hb1⟩
   case measure => simp [intOf]
end
section
open Go.RowKit
def kList : List Int := [1116352408, 1899447441, 3049323471, 3921009573, 961987163, 1508970993, 2453635748, 2870763221, 3624381080, 310598401, 607225278, 1426881987, 1925078388, 2162078206, 2614888103, 3248222580, 3835390401, 4022224774, 264347078, 604807628, 770255983, 1249150122, 1555081692, 1996064986, 2554220882, 2821834349, 2952996808, 3210313671, 3336571891, 3584528711, 113926993, 338241895, 666307205, 773529912, 1294757372, 1396182291, 1695183700, 1986661051, 2177026350, 2456956037, 2730485921, 2820302411, 3259730800, 3345764771, 3516065817, 3600352804, 4094571909, 275423344, 430227734, 506948616, 659060556, 883997877, 958139571, 1322822218, 1537002063, 1747873779, 1955562222, 2024104815, 2227730452, 2361852424, 2428436474, 2756734187, 3204031479, 3329325298]
def hList : List Int := [1779033703, 3144134277, 1013904242, 2773480762, 1359893119, 2600822924, 528734635, 1541459225]
def kS (i : Nat) : Int := kList.getD i 0
def hS (i : Nat) : Int := hList.getD i 0
def add32 (a b : Int) : Int := (a + b) % 4294967296
def or32 (a b : Int) : Int := bits .or .u32 a b
def xor32 (a b : Int) : Int := bits .xor .u32 a b
def and32 (a b : Int) : Int := bits .and .u32 a b
def not32 (a : Int) : Int := bits .xor .u32 4294967295 a
def rot (x : Int) (n : Nat) : Int := or32 (x / 2 ^ n) (x * 2 ^ (32 - n) % 4294967296)
def low0 (x : Int) : Int := xor32 (xor32 (rot x 7) (rot x 18)) (x / 8)
def low1 (x : Int) : Int := xor32 (xor32 (rot x 17) (rot x 19)) (x / 1024)
def big1 (x : Int) : Int := xor32 (xor32 (rot x 6) (rot x 11)) (rot x 25)
def big0 (x : Int) : Int := xor32 (xor32 (rot x 2) (rot x 13)) (rot x 22)
def pick (e f g : Int) : Int := or32 (and32 e f) (and32 (not32 e) g)
def most (a b c : Int) : Int := or32 (or32 (and32 a b) (and32 a c)) (and32 b c)
def four (a b c d : Int) : Int := or32 (or32 (or32 (a * 16777216) (b * 65536)) (c * 256)) d
def word (B : NI) (S : NI) (t : Nat) : Int :=
 if t < 16 then four (B (4 * t)) (B (4 * t + 1)) (B (4 * t + 2)) (B (4 * t + 3))
 else add32 (add32 (add32 (S (t - 16)) (low0 (S (t - 15)))) (S (t - 7))) (low1 (S (t - 2)))
def sched (B : NI) : Nat -> Nat -> Int
 | 0 => fun _ => 0
 | t + 1 => fun j => if j = t then word B (sched B t) t else sched B t j
def one32 (v : NI) (k w : Int) : Int := add32 (add32 (add32 (add32 (v 7) (big1 (v 4))) (pick (v 4) (v 5) (v 6))) k) w
def two32 (v : NI) : Int := add32 (big0 (v 0)) (most (v 0) (v 1) (v 2))
def zcW (v : NI) (k w : Int) : Nat -> Int
 | 0 => add32 (one32 v k w) (two32 v)
 | 1 => v 0
 | 2 => v 1
 | 3 => v 2
 | 4 => add32 (v 3) (one32 v k w)
 | 5 => v 4
 | 6 => v 5
 | 7 => v 6
 | _ => 0
def zai (W : NI) : Nat -> (Nat -> Int) -> Nat -> Int
 | 0, v => v
 | t + 1, v => zcW (zai W t v) (kS t) (W t)
def state (B : NI) : Nat -> Nat -> Int
 | 0 => hS
 | c + 1 => fun i => add32 (state B c i) (zai (sched (fun j => B (64 * c + j)) 64) 64 (state B c) i)
def zeros (n : Nat) : Nat := (119 - n % 64) % 64
def padL (xs : List Int) : List Int := xs ++ [128] ++ List.replicate (zeros xs.length) 0 ++ zap (xs.length * 8) 8
def za0 (n : Nat) : Nat := (n + 1 + zeros n + 8) / 64
def outL (h : NI) : Nat -> List Int
 | 0 => []
 | i + 1 => outL h i ++ zap (h i) 4
def sumL (xs : List Int) : List Int := outL (state (fun i => (padL xs).getD i 0) (za0 xs.length)) 8
end
section
open Go.RowKit
theorem zbf (x : Int) (n : Nat) (w : World) (n1 : n <= 32) :
  Calls prog 159 #[.int .u32 x, .int .i64 (n : Int)] w fun e w' => e = .returned (.int .u32 (rot x n)) /\ ∃ n, w' = w.drewN n := by
 go_enter func159, ntmps159
 go_wp2_with fail
 go_quiet (fail)
 go_wp2
 go_ret
 exact ⟨rfl, _, rfl⟩
theorem ks_any (w : World) : Calls prog 158 #[] w fun e w' => e = .returned (.slice (some ⟨w.heap.size, 0, none⟩) 64 64) /\ w' = w.alloc (.cells (kList.map (Value.int .u32)).toArray 163) := by
 go_enter func158, ntmps158
 go_wp2
 go_ret
 exact ⟨rfl, rfl⟩
end
section
open Go.RowKit
def zax (s : ByteArray) : List Int := s.data.toList.map fun b => (b.toNat : Int)
theorem zcs (s : ByteArray) : (zax s).length = s.size := by
 unfold zax
 rw [List.length_map, Array.length_toList]
 rfl
theorem numsOf_str (s : ByteArray) : strOfNums (zax s) = s := by
 have : ∀ l : List UInt8, (l.map fun b => (b.toNat : Int)).map (fun n => UInt8.ofNat n.toNat) = l := by
  intro l
  induction l with
  | nil => rfl
  | cons b l ih => simp only [List.map_cons, ih]; simp
 unfold strOfNums zax
 rw [this]
theorem numsOf_bd (s : ByteArray) : ∀ x ∈ zax s, 0 <= x /\ x <= 255 := by
 intro x hx
 obtain ⟨b, _, rfl⟩ := List.mem_map.1 hx
 have := b.toNat_lt
 omega
def Bts (xs : List Int) : Prop := ∀ x ∈ xs, 0 <= x /\ x <= 255
theorem nums_str {xs : List Int} (h : Bts xs) : zax (strOfNums xs) = xs := by
 unfold zax
 rw [strOfNums_data, List.map_map]
 conv => rhs; rw [<- List.map_id xs]
 refine List.map_congr_left fun x hx => ?_
 have := h x hx
 simp
 omega
theorem zcR (xs ys : List Int) : strOfNums xs ++ strOfNums ys = strOfNums (xs ++ ys) := by
 apply ByteArray.ext
 simp [strOfNums]
theorem zeK (s : ByteArray) : byteCells s = (zax s).map (Value.int .u8) := by
 simp [byteCells, zax]
theorem byteAt_bd (n : Int) (i : Nat) : 0 <= zbl n i /\ zbl n i <= 255 := by
 unfold zbl
 omega
theorem zbs (n : Int) (k : Nat) : Bts (zap n k) := by
 intro x hx
 obtain ⟨t, _, rfl⟩ := List.mem_map.1 hx
 exact byteAt_bd _ _
theorem zal (n : Int) (k : Nat) : (zap n k).length = k := zdC n k k
theorem came_bytes (w : World) (s : ByteArray) (t : TypeId) (cap : Nat) (h : s.size <= cap) :
  Came (w.alloc (.cells (bytesRow s cap) t ((bytesRow s cap).size, (bytesRow s cap).size + 1))) 1 (some ⟨w.heap.size, 0, none⟩) w.heap.size 0 s.size cap ((zax s).map (Value.int .u8)) := by
 have hsz : (bytesRow s cap).size = cap := by
  unfold bytesRow
  rw [Array.size_append, Array.size_map, Array.size_replicate]
  have : s.data.size = s.size := rfl
  omega
 refine ⟨h, fun _ => rfl, fun _ => by simp, by simp [zcs], fun j u hj => ?_, fun j hj => ⟨?_, ?_⟩⟩
 ·have hj' : j < s.data.size := by
   have := (List.getElem?_eq_some_iff.1 hj).1
   simpa [zax] using this
  rw [Nat.zero_add, World.cell?_alloc_mark, bytesRow_at s cap j hj', <- hj]
  simp [zax, Array.getElem?_eq_getElem hj']
 ·rw [World.cell?_alloc_mark, Array.getElem?_eq_getElem (by rw [hsz]; omega)]
  rfl
 ·rw [World.frozen?_alloc_mark, hsz]
  simp
  omega
end
end Go.Proofs.YtlnmjbbpenhdbaaGreat
