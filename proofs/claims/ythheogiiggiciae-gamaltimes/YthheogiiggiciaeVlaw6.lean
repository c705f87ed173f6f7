/-
  The statement's walk (layer 5): GamalTimes.
-/
import Derived.Test.YthheogiiggiciaeVtim
namespace Go.Proofs.Ythheogiiggiciae
open Go.RowKit

/-- Two pairs in their blocks behind what was laid out. -/
structure Pp (w : World) (l : List (Array Value × TypeId)) (ba bb : Nat) (u1 v1 u2 v2 : Int) (W : World) : Prop where
  one : Pd w l ba u1 v1 W
  two : Pd w l bb u2 v2 W
theorem Pp.then {w W W' : World} {l : List (Array Value × TypeId)} {ba bb : Nat} {u1 v1 u2 v2 : Int} (h : Pp w l ba bb u1 v1 u2 v2 W) (ho : Old W W') : Pp w l ba bb u1 v1 u2 v2 W' := ⟨h.one.then ho, h.two.then ho⟩

theorem pp_ab {w W : World} {l : List (Array Value × TypeId)} (h : Lain w l W) (u1 v1 u2 v2 : Int) : Pp w l W.heap.size (W.heap.size + 1) u1 v1 u2 v2 ((W.alloc (.cells #[.int .u64 u1, .int .u64 v1] 27)).alloc (.cells #[.int .u64 u2, .int .u64 v2] 27)).drew := by
  refine ⟨(Pd.last h u1 v1).then ((Old.refl _).alloc _).drew, ?_⟩
  have := (Pd.last (h.then ((Old.refl W).alloc (.cells #[.int .u64 u1, .int .u64 v1] 27))) u2 v2).then (Old.refl _).drew
  simpa using this
theorem pp_ba {w W : World} {l : List (Array Value × TypeId)} (h : Lain w l W) (u1 v1 u2 v2 : Int) : Pp w l (W.heap.size + 1) W.heap.size u1 v1 u2 v2 ((W.alloc (.cells #[.int .u64 u2, .int .u64 v2] 27)).alloc (.cells #[.int .u64 u1, .int .u64 v1] 27)).drew :=
  ⟨(pp_ab h u2 v2 u1 v1).two, (pp_ab h u2 v2 u1 v1).one⟩

theorem get_alloc (w : World) (o : Obj) (k : Nat) : (w.alloc o).heap[k]? = if k = w.heap.size then some o else w.heap[k]? := by
  show (w.heap.push o)[k]? = _
  rw [Array.getElem?_push]
theorem row_e0 {x W : World} {o : Obj} (h : Old (x.alloc o) W) : W.heap[x.heap.size]? = some o := by
  rw [h.block _ (by simp)]
  exact heap_alloc_last x o
theorem row_e1 {x W : World} {o1 o : Obj} (h : Old ((x.alloc o1).alloc o) W) : W.heap[x.heap.size + 1]? = some o := by
  have := row_e0 h
  simpa using this
theorem row_e2 {x W : World} {o1 o2 o : Obj} (h : Old (((x.alloc o1).alloc o2).alloc o) W) : W.heap[x.heap.size + 2]? = some o := by
  have := row_e0 h
  simpa using this
theorem old_row {W W' : World} (ho : Old W W') {b : Nat} {o : Obj} (h : W.heap[b]? = some o) : W'.heap[b]? = some o := (ho.block _ (Array.getElem?_eq_some_iff.1 h).1).trans h
theorem facs_at {w : World} {b : Nat} {x y : Int} {t : TypeId} (h : w.heap[b]? = some (.cells #[.int .u64 x, .int .u64 y] t (0, 0))) (hx : U64 x) (hy : U64 y) : FacsIn w (some ⟨b, 0, none⟩) 2 (two5 x y) := by
  refine Or.inr ⟨_, _, rfl, (Array.getElem?_eq_some_iff.1 h).1, fun j hj => ?_⟩
  match j, hj with
  | 0, _ => exact ⟨cell_of_row _ _ 0 _ _ (0, 0) h, hx.1, hx.2⟩
  | 1, _ => exact ⟨cell_of_row _ _ 1 _ _ (0, 0) h, hy.1, hy.2⟩
theorem c_last {w W : World} (h : Old w W) (x y : Value) (t : TypeId) : Old w (W.alloc (.cells #[x, y] t)) ∧ (W.alloc (.cells #[x, y] t)).cell? ⟨W.heap.size, 0, none⟩ = some x ∧ (W.alloc (.cells #[x, y] t)).cell? ⟨W.heap.size, 1, none⟩ = some y :=
  ⟨h.alloc _, (World.cell?_alloc_mark W _ t (0, 0) 0).trans rfl, (World.cell?_alloc_mark W _ t (0, 0) 1).trans rfl⟩
theorem c_set {w W : World} {b : Nat} {p q : Value} {t : TypeId} (h : Old w W) (hrow : W.heap[b]? = some (.cells #[p, q] t (0, 0))) (hb : w.heap.size ≤ b) (x y : Value) :
    Old w ((W.setCell ⟨b, 0, none⟩ x).setCell ⟨b, 1, none⟩ y) ∧ ((W.setCell ⟨b, 0, none⟩ x).setCell ⟨b, 1, none⟩ y).cell? ⟨b, 0, none⟩ = some x ∧ ((W.setCell ⟨b, 0, none⟩ x).setCell ⟨b, 1, none⟩ y).cell? ⟨b, 1, none⟩ = some y := by
  have hr := set_row (set_row hrow 0 x) 1 y
  refine ⟨(h.setCell hb _).setCell hb _, ?_, ?_⟩
  · rw [cell_of_row _ _ 0 _ _ (0, 0) hr]; simp
  · rw [cell_of_row _ _ 1 _ _ (0, 0) hr]; simp

set_option linter.unusedSimpArgs false in
set_option maxRecDepth 100000 in
set_option maxHeartbeats 8000000 in
theorem law_times (P Q G H u1 v1 u2 v2 x : Int) (a : Option Addr) (n cap : Nat) (N A : Nat → Int) (FA : Nat → Option Addr) (L C : Nat → Nat) (F : Nat → Nat → Int) (w : World) (h4 : Four P Q G H) (_hcap : n ≤ cap) (hin : RowsIn w a n N A FA L C F) (hu1 : U64 u1) (hv1 : U64 v1) (hu2 : U64 u2) (hv2 : U64 v2) (hx : U64 x) :
    Calls Try.prog 3 #[gv P Q G H a n cap, .agg #[.int .u64 u1, .int .u64 v1, .int .u64 u2, .int .u64 v2], .int .u64 x] w fun e w' => e = .returned (.bool true) ∧ Old w w' := by
  have HA : Hid (∀ wx, Lain w [(gc P Q G H a n cap, 25), (#[.int .u64 u1, .int .u64 v1, .int .u64 u2, .int .u64 v2], 28), (#[.int .u64 x], 22)] wx → Calls Try.prog 4 #[] wx fun e w' => e = .returned (.bool true) ∧ Lain w [(gc P Q G H a n cap, 25), (#[.int .u64 u1, .int .u64 v1, .int .u64 u2, .int .u64 v2], 28), (#[.int .u64 x], 22)] w') := fun wx hb => (awake5_any wx).mono fun e w' ⟨h, k⟩ => ⟨h, hb.then k⟩
  have HU : Hid (∀ wx, Lain w [(gc P Q G H a n cap, 25), (#[.int .u64 u1, .int .u64 v1, .int .u64 u2, .int .u64 v2], 28), (#[.int .u64 x], 22)] wx → Calls Try.prog 5 #[gv P Q G H a n cap] wx fun e w' => e = .returned (.bool (fewB L n && rightI P Q G H N A F L n)) ∧ Old wx w') := fun wx hb => group5_any P Q G H a n cap N A FA L C F wx h4 (hin.old hb.old)
  have HL : Hid (∀ wx t, Calls Try.prog 6 #[gv P Q G H a n cap, .slice (some ⟨wx.heap.size, 0, none⟩) 4 4] (wx.alloc (.cells #[.int .u64 u1, .int .u64 v1, .int .u64 u2, .int .u64 v2] t)) fun e w' => e = .returned (.bool (allB P Q (four5 u1 v1 u2 v2) 4)) ∧ Old wx w') :=
    fun wx t => (all5_any P Q G H a n cap _ 4 4 _ _ h4 (by decide) (facs_four wx u1 v1 u2 v2 t hu1 hv1 hu2 hv2)).mono fun e w' ⟨h, k⟩ => ⟨h, ((Old.refl _).alloc _).trans k⟩
  have HF : Hid (∀ w', Lain w [(gc P Q G H a n cap, 25), (#[.int .u64 u1, .int .u64 v1, .int .u64 u2, .int .u64 v2], 28), (#[.int .u64 x], 22)] w' → w'.cell? ⟨w.heap.size, 0, none⟩ = some (.int .u64 P) ∧ w'.cell? ⟨w.heap.size, 1, none⟩ = some (.int .u64 Q) ∧ w'.cell? ⟨w.heap.size, 2, none⟩ = some (.int .u64 G) ∧ w'.cell? ⟨w.heap.size, 3, none⟩ = some (.int .u64 H) ∧ w'.cell? ⟨w.heap.size, 4, none⟩ = some (.slice a n cap) ∧ w'.cell? ⟨w.heap.size + 1, 0, none⟩ = some (.int .u64 u1) ∧ w'.cell? ⟨w.heap.size + 1, 1, none⟩ = some (.int .u64 v1) ∧ w'.cell? ⟨w.heap.size + 1, 2, none⟩ = some (.int .u64 u2) ∧ w'.cell? ⟨w.heap.size + 1, 3, none⟩ = some (.int .u64 v2) ∧ w'.cell? ⟨w.heap.size + 2, 0, none⟩ = some (.int .u64 x)) := fun _ h => ⟨h.cell 0 0 (by simp) rfl, h.cell 0 1 (by simp) rfl, h.cell 0 2 (by simp) rfl, h.cell 0 3 (by simp) rfl, h.cell 0 4 (by simp) rfl, h.cell 1 0 (by simp) rfl, h.cell 1 1 (by simp) rfl, h.cell 1 2 (by simp) rfl, h.cell 1 3 (by simp) rfl, h.cell 2 0 (by simp) rfl⟩
  have HD : Hid (∀ wx, Lain w [(gc P Q G H a n cap, 25), (#[.int .u64 u1, .int .u64 v1, .int .u64 u2, .int .u64 v2], 28), (#[.int .u64 x], 22)] wx → Lain w [(gc P Q G H a n cap, 25), (#[.int .u64 u1, .int .u64 v1, .int .u64 u2, .int .u64 v2], 28), (#[.int .u64 x], 22)] wx.drew) := fun _ h => h.then (Old.refl _).drew
  have HE : Hid (∀ wx k, Lain w [(gc P Q G H a n cap, 25), (#[.int .u64 u1, .int .u64 v1, .int .u64 u2, .int .u64 v2], 28), (#[.int .u64 x], 22)] wx → Lain w [(gc P Q G H a n cap, 25), (#[.int .u64 u1, .int .u64 v1, .int .u64 u2, .int .u64 v2], 28), (#[.int .u64 x], 22)] (wx.drewN k)) := fun _ k h => h.then ((Old.refl _).drewN k)
  have ha := hin.a0
  clear hin
  have HZ := lain3 w (gc P Q G H a n cap) #[.int .u64 u1, .int .u64 v1, .int .u64 u2, .int .u64 v2] #[.int .u64 x] 25 28 22
  go_enter Try.func3, Try.ntmps3
  go_upto_region 1 with fail
  generalize hW : ((w.alloc (.cells (gc P Q G H a n cap) 25)).alloc (.cells #[.int .u64 u1, .int .u64 v1, .int .u64 u2, .int .u64 v2] 28)).alloc (.cells #[.int .u64 x] 22) = W at *
  clear hW
  have hb := HZ
  obtain ⟨d0, d1, d2, d3, d4, e0, e1, e2, e3, dx⟩ := HF.out _ hb
  go_upto_region 3 with (go_at_call 4; refine (HA.out _ (by first | assumption | exact HD.out _ (by assumption) | exact HE.out _ _ (by assumption))).mono ?_; rintro e w1 ⟨rfl, hb⟩; obtain ⟨d0, d1, d2, d3, d4, e0, e1, e2, e3, dx⟩ := HF.out _ hb)
  have HB : Hid (Lain w [(gc P Q G H a n cap, 25), (#[.int .u64 u1, .int .u64 v1, .int .u64 u2, .int .u64 v2], 28), (#[.int .u64 x], 22)] w1) := hb
  have hw1 : w.heap.size + 3 ≤ w1.heap.size := hb.size
  clear hb
  go_cut [7, 8] (fun p7 p8 wx => ∃ ba bb, p7 = .pointer (some ⟨ba, 0, none⟩) ∧ p8 = .pointer (some ⟨bb, 0, none⟩) ∧ Hid (Pp w [(gc P Q G H a n cap, 25), (#[.int .u64 u1, .int .u64 v1, .int .u64 u2, .int .u64 v2], 28), (#[.int .u64 x], 22)] ba bb u1 v1 u2 v2 wx))
  case first =>
    go_region_held3 (fun w' => w'.cell? ⟨w.heap.size, 0, none⟩ = some (.int .u64 P) ∧ w'.cell? ⟨w.heap.size, 1, none⟩ = some (.int .u64 Q) ∧ w'.cell? ⟨w.heap.size, 2, none⟩ = some (.int .u64 G) ∧ w'.cell? ⟨w.heap.size, 3, none⟩ = some (.int .u64 H) ∧ w'.cell? ⟨w.heap.size, 4, none⟩ = some (.slice a n cap) ∧ w'.cell? ⟨w.heap.size + 1, 0, none⟩ = some (.int .u64 u1) ∧ w'.cell? ⟨w.heap.size + 1, 1, none⟩ = some (.int .u64 v1) ∧ w'.cell? ⟨w.heap.size + 1, 2, none⟩ = some (.int .u64 u2) ∧ w'.cell? ⟨w.heap.size + 1, 3, none⟩ = some (.int .u64 v2) ∧ w'.cell? ⟨w.heap.size + 2, 0, none⟩ = some (.int .u64 x)) (first | exact HF.out _ (HB.out.then (by assumption)) | (go_keep; done) | (and_intros <;> (refine cell_far ?_ (cell_far ?_ ?_) <;> first | assumption | omega))) (fail)
    all_goals
      go_wp2_with fail
      go_meet
      case rel => first
        | exact ⟨_, _, rfl, rfl, pp_ab HB.out _ _ _ _⟩
        | exact ⟨_, _, rfl, rfl, pp_ba HB.out _ _ _ _⟩
  obtain ⟨ba, bb, rfl, rfl, HPP⟩ := hcut
  have HT : Hid (∀ w', Old wc w' → w'.cell? ⟨w.heap.size, 0, none⟩ = some (.int .u64 P) ∧ w'.cell? ⟨w.heap.size, 1, none⟩ = some (.int .u64 Q) ∧ w'.cell? ⟨w.heap.size, 2, none⟩ = some (.int .u64 G) ∧ w'.cell? ⟨w.heap.size, 3, none⟩ = some (.int .u64 H) ∧ w'.cell? ⟨w.heap.size, 4, none⟩ = some (.slice a n cap) ∧ w'.cell? ⟨w.heap.size + 1 + 1, 0, none⟩ = some (.int .u64 x) ∧ w'.cell? ⟨ba, 0, none⟩ = some (.int .u64 u1) ∧ w'.cell? ⟨ba, 1, none⟩ = some (.int .u64 v1) ∧ w'.cell? ⟨bb, 0, none⟩ = some (.int .u64 u2) ∧ w'.cell? ⟨bb, 1, none⟩ = some (.int .u64 v2)) := fun w' ho => by
    obtain ⟨d0, d1, d2, d3, d4, e0, e1, e2, e3, dx⟩ := HF.out _ (HPP.out.one.lain.then ho)
    exact ⟨d0, d1, d2, d3, d4, dx, (HPP.out.one.then ho).c0, (HPP.out.one.then ho).c1, (HPP.out.two.then ho).c0, (HPP.out.two.then ho).c1⟩
  clear d0 d1 d2 d3 d4 e0 e1 e2 e3 dx
  clear HB hw1
  obtain ⟨d0, d1, d2, d3, d4, dx, a0, a1, a2, a3⟩ := HT.out _ (Old.refl _)
  cases hg : (fewB L n && rightI P Q G H N A F L n)
  · rw [hg] at HU
    clear hg ha h4
    go_wp2_with (go_at_call 5; refine (HU.out _ HPP.out.one.lain).mono ?_; rintro e w2 ⟨rfl, h2⟩; obtain ⟨d0, d1, d2, d3, d4, dx, a0, a1, a2, a3⟩ := HT.out _ h2)
    go_ret
    exact ⟨rfl, HPP.out.one.lain.old.trans h2⟩
  have hg' := Bool.and_eq_true_iff.1 hg
  have hR := right_righ ha hg'.2
  rw [hg] at HU
  clear hg hg' ha
  cases hall : allB P Q (four5 u1 v1 u2 v2) 4
  · rw [hall] at HL
    clear hall h4 hR
    go_wp2_with (first
      | (go_at_call 5; refine (HU.out _ HPP.out.one.lain).mono ?_; rintro e w2 ⟨rfl, h2⟩; obtain ⟨d0, d1, d2, d3, d4, dx, a0, a1, a2, a3⟩ := HT.out _ h2)
      | (go_at_call 6; refine (HL.out _ _).mono ?_; rintro e w3 ⟨rfl, o3⟩; have h3 : Old wc w3 := h2.trans o3; obtain ⟨d0, d1, d2, d3, d4, dx, a0, a1, a2, a3⟩ := HT.out _ h3))
    go_ret
    exact ⟨rfl, HPP.out.one.lain.old.trans h3⟩
  rw [hall] at HL
  have i1 : inI P Q u1 = true := allB_iff.1 hall 0 (by omega)
  have i2 : inI P Q u2 = true := allB_iff.1 hall 2 (by omega)
  clear hall
  have hmf : ∀ (fn : Fn) (first cap : Array Value) (w : World), (Instr.makeFunc fn first cap).run Try.prog w = .ok (.func fn first cap) w := fun _ _ _ _ => rfl
  go_upto_region 7 with (first
    | (go_at_call 5; refine (HU.out _ HPP.out.one.lain).mono ?_; rintro e w2 ⟨rfl, h2⟩; obtain ⟨d0, d1, d2, d3, d4, dx, a0, a1, a2, a3⟩ := HT.out _ h2)
    | (go_at_call 6; refine (HL.out _ _).mono ?_; rintro e w3 ⟨rfl, o3⟩; have h3 : Old wc w3 := h2.trans o3; obtain ⟨d0, d1, d2, d3, d4, dx, a0, a1, a2, a3⟩ := HT.out _ h3))
  have HT3 : Hid (∀ w', Old w3 w' → w'.cell? ⟨w.heap.size, 0, none⟩ = some (.int .u64 P) ∧ w'.cell? ⟨w.heap.size, 1, none⟩ = some (.int .u64 Q) ∧ w'.cell? ⟨w.heap.size, 2, none⟩ = some (.int .u64 G) ∧ w'.cell? ⟨w.heap.size, 3, none⟩ = some (.int .u64 H) ∧ w'.cell? ⟨w.heap.size, 4, none⟩ = some (.slice a n cap) ∧ w'.cell? ⟨w.heap.size + 1 + 1, 0, none⟩ = some (.int .u64 x) ∧ w'.cell? ⟨ba, 0, none⟩ = some (.int .u64 u1) ∧ w'.cell? ⟨ba, 1, none⟩ = some (.int .u64 v1) ∧ w'.cell? ⟨bb, 0, none⟩ = some (.int .u64 u2) ∧ w'.cell? ⟨bb, 1, none⟩ = some (.int .u64 v2)) := fun w' ho => HT.out _ (h3.trans ho)
  have hba : ba < w3.heap.size := (Array.getElem?_eq_some_iff.1 (HPP.out.one.then h3).row).1
  have hbb : bb < w3.heap.size := (Array.getElem?_eq_some_iff.1 (HPP.out.two.then h3).row).1
  have hw3 : w.heap.size + 3 ≤ w3.heap.size := (HPP.out.one.lain.then h3).size
  have HL3 : Hid (Old w w3) := HPP.out.one.lain.old.trans h3
  have HJ : Hid (∀ x y b wx, U64 x → U64 y → FacsIn wx (some ⟨b, 0, none⟩) 2 (two5 x y) → Calls Try.prog 10 #[gv P Q G H a n cap, .slice (some ⟨b, 0, none⟩) 2 2] wx fun e w' => e = .returned (.int .u64 (mulI x y P)) ∧ Old wx w') := fun x y b wx hx hy hf => (gjoin_any P Q G H a n cap _ 2 2 _ wx h4 hR (by decide) (by decide) hf).mono fun e w' ⟨h, k⟩ => ⟨by rw [h, prod5 hR], k⟩
  have HJU : Hid (∀ b wx t, wx.heap[b]? = some (.cells #[.int .u64 u1, .int .u64 u2] t (0, 0)) → Calls Try.prog 10 #[gv P Q G H a n cap, .slice (some ⟨b, 0, none⟩) 2 2] wx fun e w' => e = .returned (.int .u64 (mulI u1 u2 P)) ∧ Old wx w') := fun b wx t h => HJ.out u1 u2 b wx hu1 hu2 (facs_at h hu1 hu2)
  have HJV : Hid (∀ b wx t, wx.heap[b]? = some (.cells #[.int .u64 v1, .int .u64 v2] t (0, 0)) → Calls Try.prog 10 #[gv P Q G H a n cap, .slice (some ⟨b, 0, none⟩) 2 2] wx fun e w' => e = .returned (.int .u64 (mulI v1 v2 P)) ∧ Old wx w') := fun b wx t h => HJ.out v1 v2 b wx hv1 hv2 (facs_at h hv1 hv2)
  obtain ⟨uu, huu⟩ : ∃ z : Int, z = mulI u1 u2 P := ⟨_, rfl⟩
  obtain ⟨vv, hvv⟩ : ∃ z : Int, z = mulI v1 v2 P := ⟨_, rfl⟩
  rw [← huu] at HJU
  rw [← hvv] at HJV
  have HUV : Hid (uu = mulI u1 u2 P ∧ vv = mulI v1 v2 P) := ⟨huu, hvv⟩
  have HAL : Hid (Four P Q G H ∧ Righ P Q G ∧ inI P Q u1 = true ∧ inI P Q u2 = true ∧ U64 u1 ∧ U64 v1 ∧ U64 u2 ∧ U64 v2 ∧ U64 x) := ⟨h4, hR, i1, i2, hu1, hv1, hu2, hv2, hx⟩
  clear huu hvv h4 hR i1 i2 hu1 hv1 hu2 hv2 hx HA HU HL HD HE HZ h2 o3 HT
  clear d0 d1 d2 d3 d4 dx a0 a1 a2 a3
  obtain ⟨d0, d1, d2, d3, d4, dx, a0, a1, a2, a3⟩ := HT3.out _ (Old.refl _)
  go_cut [10] (fun p10 wx => ∃ bc, p10 = .pointer (some ⟨bc, 0, none⟩) ∧ Hid (Old w3 wx ∧ wx.cell? ⟨bc, 0, none⟩ = some (.int .u64 uu) ∧ wx.cell? ⟨bc, 1, none⟩ = some (.int .u64 vv)))
  case first =>
    go_region_held3 (fun w' => w'.cell? ⟨w.heap.size, 0, none⟩ = some (.int .u64 P) ∧ w'.cell? ⟨w.heap.size, 1, none⟩ = some (.int .u64 Q) ∧ w'.cell? ⟨w.heap.size, 2, none⟩ = some (.int .u64 G) ∧ w'.cell? ⟨w.heap.size, 3, none⟩ = some (.int .u64 H) ∧ w'.cell? ⟨w.heap.size, 4, none⟩ = some (.slice a n cap) ∧ w'.cell? ⟨w.heap.size + 1 + 1, 0, none⟩ = some (.int .u64 x) ∧ w'.cell? ⟨ba, 0, none⟩ = some (.int .u64 u1) ∧ w'.cell? ⟨ba, 1, none⟩ = some (.int .u64 v1) ∧ w'.cell? ⟨bb, 0, none⟩ = some (.int .u64 u2) ∧ w'.cell? ⟨bb, 1, none⟩ = some (.int .u64 v2)) (first | exact HT3.out _ h5 | exact HT3.out _ (h5.alloc _) | exact HT3.out _ h4 | exact HT3.out _ (h4.alloc _) | exact HT3.out _ ((h4.alloc _).alloc _) | exact HT3.out _ (Old.refl _).drew | exact HT3.out _ ((Old.refl _).alloc _).drew | exact HT3.out _ (((Old.refl _).alloc _).alloc _).drew | exact HT3.out _ ((((Old.refl _).alloc _).alloc _).alloc _).drew | (and_intros <;> (refine cell_far ?_ (cell_far ?_ ?_) <;> first | assumption | omega))) (first
      | (go_at_call 10; refine (HJU.out _ _ 22 ?_).mono ?_; (first | exact row_e0 (Old.refl _).drew | exact row_e0 ((Old.refl _).alloc _).drew | exact row_e0 (((Old.refl _).alloc _).alloc _).drew | exact row_e1 (Old.refl _).drew | exact row_e1 ((Old.refl _).alloc _).drew | exact row_e2 (Old.refl _).drew); rintro e w4 ⟨rfl, o4⟩; have h4 : Old w3 w4 := Old.trans (by repeat first | exact Old.refl _ | apply Old.alloc | apply Old.drew) o4; (try (have rB := old_row (o := .cells #[.int .u64 v1, .int .u64 v2] 22 (0, 0)) o4 (row_e0 (Old.refl _).drew))); (try (have rB := old_row (o := .cells #[.int .u64 v1, .int .u64 v2] 22 (0, 0)) o4 (row_e0 ((Old.refl _).alloc _).drew))); (try (have rB := old_row (o := .cells #[.int .u64 v1, .int .u64 v2] 22 (0, 0)) o4 (row_e0 (((Old.refl _).alloc _).alloc _).drew))); (try (have rB := old_row (o := .cells #[.int .u64 v1, .int .u64 v2] 22 (0, 0)) o4 (row_e1 (Old.refl _).drew))); (try (have rB := old_row (o := .cells #[.int .u64 v1, .int .u64 v2] 22 (0, 0)) o4 (row_e1 ((Old.refl _).alloc _).drew))); (try (have rB := old_row (o := .cells #[.int .u64 v1, .int .u64 v2] 22 (0, 0)) o4 (row_e2 (Old.refl _).drew))); (try (have rC := old_row (o := .cells #[.int .u64 0, .int .u64 0] 27 (0, 0)) o4 (row_e0 (Old.refl _).drew))); (try (have rC := old_row (o := .cells #[.int .u64 0, .int .u64 0] 27 (0, 0)) o4 (row_e0 ((Old.refl _).alloc _).drew))); (try (have rC := old_row (o := .cells #[.int .u64 0, .int .u64 0] 27 (0, 0)) o4 (row_e0 (((Old.refl _).alloc _).alloc _).drew))); (try (have rC := old_row (o := .cells #[.int .u64 0, .int .u64 0] 27 (0, 0)) o4 (row_e1 (Old.refl _).drew))); (try (have rC := old_row (o := .cells #[.int .u64 0, .int .u64 0] 27 (0, 0)) o4 (row_e1 ((Old.refl _).alloc _).drew))); (try (have rC := old_row (o := .cells #[.int .u64 0, .int .u64 0] 27 (0, 0)) o4 (row_e2 (Old.refl _).drew))))
      | (go_at_call 10; refine (HJV.out _ _ 22 ?_).mono ?_; (first | exact rB | exact old_row ((Old.refl _).alloc _) rB | exact row_e0 (Old.refl _) | exact row_e0 ((Old.refl _).alloc _) | exact row_e1 (Old.refl _)); rintro e w5 ⟨rfl, o5⟩; have h5 : Old w3 w5 := Old.trans (by first | exact h4 | exact h4.alloc _ | exact (h4.alloc _).alloc _) o5; have z4 := h4.size; obtain ⟨s0, s1, s2, s3, s4, s5, s6, s7, s8, s9⟩ := HT3.out _ h5; (try (have rD := old_row (o := .cells #[.int .u64 0, .int .u64 0] 27 (0, 0)) o5 (rC); have q0 : _ = some (Value.int .u64 0) := cell_of_row _ _ 0 _ _ (0, 0) rD; have q1 : _ = some (Value.int .u64 0) := cell_of_row _ _ 1 _ _ (0, 0) rD; have f0 := row_frozen rD 0; have f1 := row_frozen rD 1)); (try (have rD := old_row (o := .cells #[.int .u64 0, .int .u64 0] 27 (0, 0)) o5 (old_row ((Old.refl _).alloc _) rC); have q0 : _ = some (Value.int .u64 0) := cell_of_row _ _ 0 _ _ (0, 0) rD; have q1 : _ = some (Value.int .u64 0) := cell_of_row _ _ 1 _ _ (0, 0) rD; have f0 := row_frozen rD 0; have f1 := row_frozen rD 1)); (try (have rD := old_row (o := .cells #[.int .u64 0, .int .u64 0] 27 (0, 0)) o5 (row_e0 (Old.refl _)); have q0 : _ = some (Value.int .u64 0) := cell_of_row _ _ 0 _ _ (0, 0) rD; have q1 : _ = some (Value.int .u64 0) := cell_of_row _ _ 1 _ _ (0, 0) rD; have f0 := row_frozen rD 0; have f1 := row_frozen rD 1)); (try (have rD := old_row (o := .cells #[.int .u64 0, .int .u64 0] 27 (0, 0)) o5 (row_e0 ((Old.refl _).alloc _)); have q0 : _ = some (Value.int .u64 0) := cell_of_row _ _ 0 _ _ (0, 0) rD; have q1 : _ = some (Value.int .u64 0) := cell_of_row _ _ 1 _ _ (0, 0) rD; have f0 := row_frozen rD 0; have f1 := row_frozen rD 1)); (try (have rD := old_row (o := .cells #[.int .u64 0, .int .u64 0] 27 (0, 0)) o5 (row_e1 (Old.refl _)); have q0 : _ = some (Value.int .u64 0) := cell_of_row _ _ 0 _ _ (0, 0) rD; have q1 : _ = some (Value.int .u64 0) := cell_of_row _ _ 1 _ _ (0, 0) rD; have f0 := row_frozen rD 0; have f1 := row_frozen rD 1))))
    all_goals
      go_wp2_with fail
      go_meet
      case rel => first
        | exact ⟨_, rfl, c_last h5 _ _ _⟩
        | exact ⟨_, rfl, c_set h5 rD (by omega) _ _⟩
  obtain ⟨bc, rfl, HC⟩ := hcut
  clear d0 d1 d2 d3 d4 dx a0 a1 a2 a3
  clear hba hbb hw3 HJU HJV
  have HT8 : Hid (∀ w', Old wc w' → w'.cell? ⟨w.heap.size, 0, none⟩ = some (.int .u64 P) ∧ w'.cell? ⟨w.heap.size, 1, none⟩ = some (.int .u64 Q) ∧ w'.cell? ⟨w.heap.size, 2, none⟩ = some (.int .u64 G) ∧ w'.cell? ⟨w.heap.size, 3, none⟩ = some (.int .u64 H) ∧ w'.cell? ⟨w.heap.size, 4, none⟩ = some (.slice a n cap) ∧ w'.cell? ⟨w.heap.size + 1 + 1, 0, none⟩ = some (.int .u64 x) ∧ w'.cell? ⟨ba, 0, none⟩ = some (.int .u64 u1) ∧ w'.cell? ⟨ba, 1, none⟩ = some (.int .u64 v1) ∧ w'.cell? ⟨bb, 0, none⟩ = some (.int .u64 u2) ∧ w'.cell? ⟨bb, 1, none⟩ = some (.int .u64 v2) ∧ w'.cell? ⟨bc, 0, none⟩ = some (.int .u64 uu) ∧ w'.cell? ⟨bc, 1, none⟩ = some (.int .u64 vv)) := fun w' ho => by
    obtain ⟨d0, d1, d2, d3, d4, dx, a0, a1, a2, a3⟩ := HT3.out _ (HC.out.1.trans ho)
    exact ⟨d0, d1, d2, d3, d4, dx, a0, a1, a2, a3, ho.cellOf HC.out.2.1, ho.cellOf HC.out.2.2⟩
  have HO : Hid (∀ u v wx, U64 u → U64 v → inI P Q u = true → Old wc wx → Calls Try.prog 7 #[pv u v, .pointer (some ⟨w.heap.size, 0, none⟩), .pointer (some ⟨w.heap.size + 1 + 1, 0, none⟩)] wx fun e w' => e = .returned (.int .u64 (opI P Q x u v)) ∧ Old wc w') := fun u v wx hu hv iu ho => by
    obtain ⟨h4, hR, _, _, _, _, _, _, hx⟩ := HAL.out
    obtain ⟨d0, d1, d2, d3, d4, dx, _⟩ := HT8.out _ ho
    exact (open5_any P Q G H a n cap u v x _ _ wx h4 hR hx hu hv iu d0 d1 d2 d3 d4 dx).mono fun e w' ⟨h, k⟩ => ⟨h, ho.trans k⟩
  obtain ⟨za, hza⟩ : ∃ z : Int, z = opI P Q x u1 v1 := ⟨_, rfl⟩
  obtain ⟨zb, hzb⟩ : ∃ z : Int, z = opI P Q x u2 v2 := ⟨_, rfl⟩
  obtain ⟨zc, hzc⟩ : ∃ z : Int, z = opI P Q x uu vv := ⟨_, rfl⟩
  have HOa : Hid (∀ wx, Old wc wx → Calls Try.prog 7 #[pv u1 v1, .pointer (some ⟨w.heap.size, 0, none⟩), .pointer (some ⟨w.heap.size + 1 + 1, 0, none⟩)] wx fun e w' => e = .returned (.int .u64 za) ∧ Old wc w') := fun wx ho => by
    obtain ⟨_, _, i1, _, hu1, hv1, _⟩ := HAL.out
    rw [hza]
    exact HO.out _ _ _ hu1 hv1 i1 ho
  have HOb : Hid (∀ wx, Old wc wx → Calls Try.prog 7 #[pv u2 v2, .pointer (some ⟨w.heap.size, 0, none⟩), .pointer (some ⟨w.heap.size + 1 + 1, 0, none⟩)] wx fun e w' => e = .returned (.int .u64 zb) ∧ Old wc w') := fun wx ho => by
    obtain ⟨_, _, _, i2, _, _, hu2, hv2, _⟩ := HAL.out
    rw [hzb]
    exact HO.out _ _ _ hu2 hv2 i2 ho
  have HOc : Hid (∀ wx, Old wc wx → Calls Try.prog 7 #[pv uu vv, .pointer (some ⟨w.heap.size, 0, none⟩), .pointer (some ⟨w.heap.size + 1 + 1, 0, none⟩)] wx fun e w' => e = .returned (.int .u64 zc) ∧ Old wc w') := fun wx ho => by
    obtain ⟨_, hR, i1, i2, _⟩ := HAL.out
    rw [hzc]
    exact HO.out _ _ _ (by rw [HUV.out.1]; exact u64_mul _ _ _) (by rw [HUV.out.2]; exact u64_mul _ _ _) (by rw [HUV.out.1]; exact hR.mul_in i1 i2) ho
  have HJf : Hid (∀ wx t, Calls Try.prog 10 #[gv P Q G H a n cap, .slice (some ⟨wx.heap.size, 0, none⟩) 2 2] (wx.alloc (.cells #[.int .u64 za, .int .u64 zb] t)) fun e w' => e = .returned (.int .u64 zc) ∧ Old wx w') := fun wx t => by
    obtain ⟨_, hR, i1, i2, _, _, _, _, hx⟩ := HAL.out
    have e : mulI za zb P = zc := by rw [hza, hzb, hzc, HUV.out.1, HUV.out.2, hR.times i1 i2 hx.1]
    rw [← e]
    exact (HJ.out za zb wx.heap.size _ (by rw [hza]; exact u64_op ..) (by rw [hzb]; exact u64_op ..) (facs_two wx za zb t (by rw [hza]; exact u64_op ..) (by rw [hzb]; exact u64_op ..))).mono fun e w' ⟨h, k⟩ => ⟨h, ((Old.refl _).alloc _).trans k⟩
  have HLL : Hid (Old w wc) := HL3.out.trans HC.out.1
  clear hza hzb hzc HO HJ HAL HUV HC HT3 HL3 h3
  obtain ⟨d0, d1, d2, d3, d4, dx, a0, a1, a2, a3, c0, c1⟩ := HT8.out _ (Old.refl _)
  go_upto_region 8 with fail
  go_region_held3 (fun w' => w'.cell? ⟨w.heap.size, 0, none⟩ = some (.int .u64 P) ∧ w'.cell? ⟨w.heap.size, 1, none⟩ = some (.int .u64 Q) ∧ w'.cell? ⟨w.heap.size, 2, none⟩ = some (.int .u64 G) ∧ w'.cell? ⟨w.heap.size, 3, none⟩ = some (.int .u64 H) ∧ w'.cell? ⟨w.heap.size, 4, none⟩ = some (.slice a n cap) ∧ w'.cell? ⟨w.heap.size + 1 + 1, 0, none⟩ = some (.int .u64 x) ∧ w'.cell? ⟨ba, 0, none⟩ = some (.int .u64 u1) ∧ w'.cell? ⟨ba, 1, none⟩ = some (.int .u64 v1) ∧ w'.cell? ⟨bb, 0, none⟩ = some (.int .u64 u2) ∧ w'.cell? ⟨bb, 1, none⟩ = some (.int .u64 v2) ∧ w'.cell? ⟨bc, 0, none⟩ = some (.int .u64 uu) ∧ w'.cell? ⟨bc, 1, none⟩ = some (.int .u64 vv)) (first | exact HT8.out _ h9 | exact HT8.out _ h8 | exact HT8.out _ (h8.alloc _) | exact HT8.out _ h7 | exact HT8.out _ h6 | (go_keep; done)) (first
    | (go_at_call_of 7 (Value.agg #[Value.int .u64 uu, Value.int .u64 vv]); refine (HOc.out _ (Old.refl _).drew).mono ?_; rintro e w6 ⟨rfl, h6⟩)
    | (go_at_call_of 7 (Value.agg #[Value.int .u64 u1, Value.int .u64 v1]); refine (HOa.out _ h6).mono ?_; rintro e w7 ⟨rfl, h7⟩)
    | (go_at_call_of 7 (Value.agg #[Value.int .u64 u2, Value.int .u64 v2]); refine (HOb.out _ h7).mono ?_; rintro e w8 ⟨rfl, h8⟩)
    | (go_at_call 10; refine (HJf.out _ _).mono ?_; rintro e w9 ⟨rfl, o9⟩; have h9 : Old wc w9 := h8.trans o9))
  go_wp2_with fail
  go_ret
  exact ⟨rfl, HLL.out.trans h9⟩

end Go.Proofs.Ythheogiiggiciae
