/-
  The contract of modn.Inv at this seat.
  The contracts of the program's functions of layer 5, and of its quotient (layer 4).
  The contracts of the program's functions of layer 5 (the second part).
  The contracts of the program's functions of layer 5: crossing.
  The statements' small group and awake (layer 4).
  The statements' Group, all and awake (layer 5).
  The statements' awake (layer 5).
  Numbers that are appended one by one, pairs that lie in a block, and what is sealed and opened (layer 5).
  Claims, talks and what is extracted, as plain functions, and their laws (layer 6).
  How a claim lies in memory, and what claim is one, as plain functions (layer 6).
  The contracts of the document's functions of layer 6: the same numbers, answers, draws, what is extracted.
-/
import Derived.Test.YtokhpppealdfmafK10
import Derived.RowKit3
import Derived.Test.YtokhpppealdfmafK11
import Derived.Laws.Rows
import Derived.Deep.Heap
import Derived.Deep.WholeRow
import Derived.Laws.AppendOwn
import Derived.Laws.OwnMore
import Derived.Maps.AppendAt
import Derived.WalkSpells
import Derived.Deep.RegionHeld3
import Derived.Deep.AppendLies
namespace Go.Proofs.Ytokhpppealdfmaf
open Go.RowKit

set_option maxHeartbeats 1000000 in
theorem inv_any (a m : Int) (w : World) (a0 : 0 ≤ a) (a1 : a ≤ 18446744073709551615) :
    Calls Try.prog 49 #[.int .u64 a, .int .u64 m] w fun e w' => e = .returned (.tuple #[.int .u64 (invI a m), .bool (invB a m)]) ∧ ∃ n, w' = w.drewN n := by
  cases hm : okM m
  · have hn := okM_no hm
    go_enter Try.func49, Try.ntmps49
    go_wp2_with (go_at_call 72; refine (isMod_no _ _ hn).mono ?_; rintro e w' ⟨rfl, rfl⟩)
    go_ret2
    exact ⟨ret_inv (inv_bad hm).2.symm (inv_bad hm).1.symm, 0, rfl⟩
  · have ⟨m0, m1⟩ := okM_yes hm
    obtain ⟨x0, x1⟩ := mod_bd a hm
    have HM : Hid (okM m = true) := hm
    clear hm
    have HS : Hid (∀ x y : Int, subI x y m = (x - y) % m ∧ 0 ≤ subI x y m ∧ subI x y m < m) := fun x y => by rw [subI_yes HM.out]; exact ⟨rfl, mod_bd _ HM.out⟩
    have HT : Hid (∀ x y : Int, mulI x y m = x * y % m ∧ 0 ≤ mulI x y m ∧ mulI x y m < m) := fun x y => by rw [mulI_yes HM.out]; exact ⟨rfl, mod_bd _ HM.out⟩
    have HZ : Hid (m ∣ a * 0 - m ∧ m ∣ a * 1 - a % m ∧ ∀ d : Int, d ∣ m → d ∣ a % m → d ∣ m ∧ d ∣ a) := euclid_start a m
    go_enter Try.func49, Try.ntmps49
    go_wp2_with (go_at_call 72; refine (isMod_yes _ _ m0 m1).mono ?_; rintro e w' ⟨rfl, rfl⟩)
    go_quiet (fail)
    go_wp2_with fail
    go_loopw [6, 7, 8, 9] (fun rv xv fv gv wx => ∃ (r x f g : Int) (nd : Nat), rv = .int .u64 r ∧ xv = .int .u64 x ∧ fv = .int .u64 f ∧ gv = .int .u64 g ∧ 1 ≤ r ∧ r ≤ m ∧ 0 ≤ x ∧ x ≤ m ∧ 0 ≤ f ∧ f < m ∧ 0 ≤ g ∧ g < m ∧ Hid (m ∣ a * f - r) ∧ Hid (m ∣ a * g - x) ∧ Hid (∀ d : Int, d ∣ r → d ∣ x → d ∣ m ∧ d ∣ a) ∧ wx = w.drewN nd) (fun _ xv _ _ _ => (intOf xv).toNat)
    case atStart => exact ⟨_, _, 0, 1, _, rfl, rfl, rfl, rfl, by omega, by omega, x0, by omega, by omega, by omega, by omega, by omega, HZ.out.1, HZ.out.2.1, HZ.out.2.2, rfl⟩
    case round =>
      obtain ⟨r, x, f, g, nd, rfl, rfl, rfl, rfl, r0, r1, y0, y1, f0, f1, g0, g1, D1, D2, D3, rfl⟩ := hrel
      by_cases hx : 0 < x
      · have k0 := Int.ediv_nonneg (show 0 ≤ r by omega) y0
        have k1 : r / x ≤ r := Int.ediv_le_self _ (by omega)
        have k2 := Int.emod_nonneg r (show x ≠ 0 by omega)
        have k3 := Int.emod_lt_of_pos r hx
        obtain ⟨u1, u2, u3⟩ := HT.out (r / x) g
        obtain ⟨t1, t2, t3⟩ := HS.out f (mulI (r / x) g m)
        have U1 : Hid (mulI (r / x) g m = r / x * g % m) := u1
        have T1 : Hid (subI f (mulI (r / x) g m) m = (f - mulI (r / x) g m) % m) := t1
        clear u1 t1
        go_wp2_with fail
        go_quiet (fail)
        go_wp2_with (first | (go_at_call 48; refine (mul_any _ _ _ _ (by omega) (by omega) (by omega) (by omega)).mono ?_; rintro e w' ⟨rfl, n, rfl⟩) | (go_at_call 50; refine (sub_any _ _ _ _ (by omega) (by omega) (by omega) (by omega)).mono ?_; rintro e w' ⟨rfl, n, rfl⟩))
        go_roundw
        case rel => exact ⟨_, _, _, _, _, rfl, rfl, rfl, rfl, by omega, by omega, by omega, by omega, g0, g1, t2, t3, D2, by rw [T1.out, U1.out]; exact euclid_step D1.out D2.out, euclid_div D3.out, rfl⟩
        case measure => simp [intOf]; omega
      · have hz : x = 0 := by omega
        subst hz
        by_cases h1 : r = 1
        · subst h1
          have hy := euclid_yes HM.out f0 f1 D1.out
          have HY : Hid (invB a m = true ∧ invI a m = f) := hy
          clear hy
          go_wp2
          go_ret2
          exact ⟨ret_inv HY.out.2.symm HY.out.1.symm, _, rfl⟩
        · have hy := euclid_no HM.out r0 h1 D3.out
          have HY : Hid (invB a m = false ∧ invI a m = 0) := hy
          clear hy
          go_wp2
          go_ret2
          exact ⟨ret_inv HY.out.2.symm HY.out.1.symm, _, rfl⟩

theorem grown_draws (w : World) (n : Nat) : Grown w (w.drewN n) := Grown.refl w

theorem drawn_trans {w w1 w2 : World} (h1 : ∃ n, w1 = w.drewN n) (h2 : ∃ n, w2 = w1.drewN n) : ∃ n, w2 = w.drewN n := by
  obtain ⟨n, rfl⟩ := h1
  obtain ⟨k, rfl⟩ := h2
  exact ⟨n + k, World.drewN_drewN w n k⟩
theorem grown_of {w w' : World} (h : ∃ n, w' = w.drewN n) : Grown w w' := by
  obtain ⟨n, rfl⟩ := h
  exact grown_draws w n

end Go.Proofs.Ytokhpppealdfmaf

namespace Go.Proofs.Ytokhpppealdfmaf
open Go.RowKit

theorem gover_any (P Q G H : Int) (a : Option Addr) (n cap : Nat) (x y : Int) (w : World) (h4 : Four P Q G H) (hr : Righ P Q G) (hx : U64 x) (hy : inI P Q y = true) :
    Calls Try.prog 53 #[gv P Q G H a n cap, .int .u64 x, .int .u64 y] w fun e w' => e = .returned (.int .u64 (overI P x y)) ∧ Old w w' := by
  have hy2 := inI_bd5 hr hy
  have hiv := hr.inv hy
  have hi2 := inI_bd5 hr hiv.2.1
  have HI : Hid (∀ wx, Beh w P Q G H a n cap wx → Calls Try.prog 49 #[.int .u64 y, .int .u64 P] wx fun e w' => e = .returned (.tuple #[.int .u64 (invI y P), .bool true]) ∧ Beh w P Q G H a n cap w') :=
    fun wx hb => (inv_any y P wx hy2.1 hy2.2).mono fun e w' ⟨h, k⟩ => ⟨by rw [h, hiv.1], hb.then ((Old.refl _).draws k)⟩
  have HN' : Hid (∀ wx, Beh w P Q G H a n cap wx → Calls Try.prog 76 #[gv P Q G H a n cap, .int .u64 (invI y P)] wx fun e w' => e = .returned (.bool true) ∧ Beh w P Q G H a n cap w') :=
    fun wx hb => (gin0 P Q G H (invI y P) a n cap wx h4.q0 h4.q1 hi2.2).mono fun e w' ⟨h, k⟩ => ⟨by rw [h, hiv.2.1], hb.then k⟩
  have HM : Hid (∀ wx t, Beh w P Q G H a n cap wx → Calls Try.prog 75 #[gv P Q G H a n cap, .slice (some ⟨wx.heap.size, 0, none⟩) 2 2] (wx.alloc (.cells #[.int .u64 x, .int .u64 (invI y P)] t)) fun e w' => e = .returned (.int .u64 (overI P x y)) ∧ Beh w P Q G H a n cap w') :=
    fun wx t hb => (gprod_any P Q G H a n cap _ 2 2 _ _ h4 hr (by decide) (by decide) (facs_two wx x (invI y P) t hx hi2)).mono fun e w' ⟨h, k⟩ => ⟨by rw [h, prod5 hr]; rfl, hb.then (((Old.refl _).alloc _).trans k)⟩
  have HN : Hid (∀ t, Beh w P Q G H a n cap (w.alloc (go P Q G H a n cap t))) := fun t => Beh.new ..
  have HF : Hid (∀ wx, Beh w P Q G H a n cap wx → wx.cell? ⟨w.heap.size, 0, none⟩ = some (.int .u64 P) ∧ wx.cell? ⟨w.heap.size, 1, none⟩ = some (.int .u64 Q) ∧ wx.cell? ⟨w.heap.size, 2, none⟩ = some (.int .u64 G) ∧ wx.cell? ⟨w.heap.size, 3, none⟩ = some (.int .u64 H) ∧ wx.cell? ⟨w.heap.size, 4, none⟩ = some (.slice a n cap)) := fun _ hb => ⟨hb.cell rfl, hb.cell rfl, hb.cell rfl, hb.cell rfl, hb.cell rfl⟩
  have HO : Hid (∀ w', Beh w P Q G H a n cap w' → Old w w') := fun _ h => h.old
  generalize overI P x y = z at *
  generalize invI y P = i at *
  clear h4 hr hx hy hy2 hiv hi2
  go_enter Try.func53, Try.ntmps53
  go_wp2_with (first
    | (go_at_call 49; refine (HI.out _ (by first | exact HN.out _ | assumption)).mono ?_; rintro e w1 ⟨rfl, hb⟩; obtain ⟨d0, d1, d2, d3, d4⟩ := HF.out _ hb)
    | (go_at_call 76; refine (HN'.out _ (by assumption)).mono ?_; rintro e w2 ⟨rfl, hb⟩; obtain ⟨d0, d1, d2, d3, d4⟩ := HF.out _ hb)
    | (go_at_call 75; refine (HM.out _ _ (by assumption)).mono ?_; rintro e w3 ⟨rfl, hb⟩))
  go_ret
  exact ⟨rfl, HO.out _ (by assumption)⟩

end Go.Proofs.Ytokhpppealdfmaf

namespace Go.Proofs.Ytokhpppealdfmaf
open Go.RowKit

end Go.Proofs.Ytokhpppealdfmaf

namespace Go.Proofs.Ytokhpppealdfmaf
open Go.RowKit

end Go.Proofs.Ytokhpppealdfmaf

namespace Go.Proofs.Ytokhpppealdfmaf
open Go.RowKit

def sN : Nat → Int | 0 => 5 | 1 => 11 | 2 => 23 | 3 => 1013 | _ => 2027
def sA : Nat → Int | 0 => 2 | 1 => 2 | 2 => 5 | 3 => 3 | _ => 2
def sL : Nat → Nat | 0 => 1 | 1 => 2 | 2 => 2 | 3 => 3 | _ => 2
def sF : Nat → Nat → Int | 0, _ => 2 | 1, 0 => 2 | 1, _ => 5 | 2, 0 => 2 | 2, _ => 11 | 3, 0 => 2 | 3, 1 => 11 | 3, _ => 23 | _, 0 => 2 | _, _ => 1013
def sP (k : Nat) (i : Nat) : Option Addr := some ⟨k + 1 + i, 0, none⟩

theorem small_right : rightI 2027 1013 4 9 sN sA sF sL 5 = true := by decide +kernel
theorem small_righ : Righ 2027 1013 4 := right_righ (fun i _ => by unfold sA; split <;> decide) small_right

/-- The small group's rows, laid out behind a block. -/
def sW (w : World) (g : Obj) (t t' : TypeId) : World := ((((((w.alloc g).alloc (.cells #[.int .u64 2] t)).alloc (.cells #[.int .u64 2, .int .u64 5] t)).alloc (.cells #[.int .u64 2, .int .u64 11] t)).alloc (.cells #[.int .u64 2, .int .u64 11, .int .u64 23] t)).alloc (.cells #[.int .u64 2, .int .u64 1013] t)).alloc (.cells #[.int .u64 5, .int .u64 2, .slice (some ⟨w.heap.size + 1, 0, none⟩) 1 1, .int .u64 11, .int .u64 2, .slice (some ⟨w.heap.size + 1 + 1, 0, none⟩) 2 2, .int .u64 23, .int .u64 5, .slice (some ⟨w.heap.size + 1 + 1 + 1, 0, none⟩) 2 2, .int .u64 1013, .int .u64 3, .slice (some ⟨w.heap.size + 1 + 1 + 1 + 1, 0, none⟩) 3 3, .int .u64 2027, .int .u64 2, .slice (some ⟨w.heap.size + 1 + 1 + 1 + 1 + 1, 0, none⟩) 2 2] t')
theorem sW_old (w : World) (g : Obj) (t t' : TypeId) : Old (w.alloc g) (sW w g t t') := ((((((Old.refl _).alloc _).alloc _).alloc _).alloc _).alloc _).alloc _
theorem sW_size (w : World) (g : Obj) (t t' : TypeId) : (sW w g t t').heap.size = w.heap.size + 7 := by simp [sW]
theorem sW_top (w : World) (g : Obj) (t t' : TypeId) (i : Nat) : (sW w g t t').cell? ⟨w.heap.size + 1 + 1 + 1 + 1 + 1 + 1, i, none⟩ = (#[.int .u64 5, .int .u64 2, .slice (some ⟨w.heap.size + 1, 0, none⟩) 1 1, .int .u64 11, .int .u64 2, .slice (some ⟨w.heap.size + 1 + 1, 0, none⟩) 2 2, .int .u64 23, .int .u64 5, .slice (some ⟨w.heap.size + 1 + 1 + 1, 0, none⟩) 2 2, .int .u64 1013, .int .u64 3, .slice (some ⟨w.heap.size + 1 + 1 + 1 + 1, 0, none⟩) 3 3, .int .u64 2027, .int .u64 2, .slice (some ⟨w.heap.size + 1 + 1 + 1 + 1 + 1, 0, none⟩) 2 2] : Array Value)[i]? := by
  unfold sW
  rw [World.cell?_alloc_at _ _ _ _ (by simp)]
theorem sW_0 (w : World) (g : Obj) (t t' : TypeId) (i : Nat) : (sW w g t t').cell? ⟨w.heap.size + 1, i, none⟩ = (#[.int .u64 2] : Array Value)[i]? := by
  unfold sW
  rw [World.cell?_alloc_past _ _ _ (by simp <;> omega), World.cell?_alloc_past _ _ _ (by simp <;> omega), World.cell?_alloc_past _ _ _ (by simp <;> omega), World.cell?_alloc_past _ _ _ (by simp <;> omega), World.cell?_alloc_past _ _ _ (by simp <;> omega), World.cell?_alloc_at _ _ _ _ (by simp)]
theorem sW_1 (w : World) (g : Obj) (t t' : TypeId) (i : Nat) : (sW w g t t').cell? ⟨w.heap.size + 1 + 1, i, none⟩ = (#[.int .u64 2, .int .u64 5] : Array Value)[i]? := by
  unfold sW
  rw [World.cell?_alloc_past _ _ _ (by simp <;> omega), World.cell?_alloc_past _ _ _ (by simp <;> omega), World.cell?_alloc_past _ _ _ (by simp <;> omega), World.cell?_alloc_past _ _ _ (by simp <;> omega), World.cell?_alloc_at _ _ _ _ (by simp)]
theorem sW_2 (w : World) (g : Obj) (t t' : TypeId) (i : Nat) : (sW w g t t').cell? ⟨w.heap.size + 1 + 1 + 1, i, none⟩ = (#[.int .u64 2, .int .u64 11] : Array Value)[i]? := by
  unfold sW
  rw [World.cell?_alloc_past _ _ _ (by simp <;> omega), World.cell?_alloc_past _ _ _ (by simp <;> omega), World.cell?_alloc_past _ _ _ (by simp <;> omega), World.cell?_alloc_at _ _ _ _ (by simp)]
theorem sW_3 (w : World) (g : Obj) (t t' : TypeId) (i : Nat) : (sW w g t t').cell? ⟨w.heap.size + 1 + 1 + 1 + 1, i, none⟩ = (#[.int .u64 2, .int .u64 11, .int .u64 23] : Array Value)[i]? := by
  unfold sW
  rw [World.cell?_alloc_past _ _ _ (by simp <;> omega), World.cell?_alloc_past _ _ _ (by simp <;> omega), World.cell?_alloc_at _ _ _ _ (by simp)]
theorem sW_4 (w : World) (g : Obj) (t t' : TypeId) (i : Nat) : (sW w g t t').cell? ⟨w.heap.size + 1 + 1 + 1 + 1 + 1, i, none⟩ = (#[.int .u64 2, .int .u64 1013] : Array Value)[i]? := by
  unfold sW
  rw [World.cell?_alloc_past _ _ _ (by simp <;> omega), World.cell?_alloc_at _ _ _ _ (by simp)]
theorem sW_rows (w : World) (g : Obj) (t t' : TypeId) : RowsIn (sW w g t t') (some ⟨w.heap.size + 1 + 1 + 1 + 1 + 1 + 1, 0, none⟩) 5 sN sA (sP w.heap.size) sL sL sF := by
  refine Or.inr ⟨_, _, rfl, by rw [sW_size]; omega, fun i hi => ?_⟩
  match i, hi with
  | 0, _ =>
    refine ⟨(sW_top ..).trans rfl, (sW_top ..).trans rfl, (sW_top ..).trans rfl, by decide, by decide, by decide, by decide, Nat.le_refl _, by decide, Or.inr ⟨_, _, rfl, by rw [sW_size]; omega, fun j hj => ?_⟩⟩
    match j, hj with
    | 0, _ => exact ⟨(sW_0 ..).trans rfl, by decide, by decide⟩
  | 1, _ =>
    refine ⟨(sW_top ..).trans rfl, (sW_top ..).trans rfl, (sW_top ..).trans rfl, by decide, by decide, by decide, by decide, Nat.le_refl _, by decide, Or.inr ⟨_, _, rfl, by rw [sW_size]; omega, fun j hj => ?_⟩⟩
    match j, hj with
    | 0, _ => exact ⟨(sW_1 ..).trans rfl, by decide, by decide⟩
    | 1, _ => exact ⟨(sW_1 ..).trans rfl, by decide, by decide⟩
  | 2, _ =>
    refine ⟨(sW_top ..).trans rfl, (sW_top ..).trans rfl, (sW_top ..).trans rfl, by decide, by decide, by decide, by decide, Nat.le_refl _, by decide, Or.inr ⟨_, _, rfl, by rw [sW_size]; omega, fun j hj => ?_⟩⟩
    match j, hj with
    | 0, _ => exact ⟨(sW_2 ..).trans rfl, by decide, by decide⟩
    | 1, _ => exact ⟨(sW_2 ..).trans rfl, by decide, by decide⟩
  | 3, _ =>
    refine ⟨(sW_top ..).trans rfl, (sW_top ..).trans rfl, (sW_top ..).trans rfl, by decide, by decide, by decide, by decide, Nat.le_refl _, by decide, Or.inr ⟨_, _, rfl, by rw [sW_size]; omega, fun j hj => ?_⟩⟩
    match j, hj with
    | 0, _ => exact ⟨(sW_3 ..).trans rfl, by decide, by decide⟩
    | 1, _ => exact ⟨(sW_3 ..).trans rfl, by decide, by decide⟩
    | 2, _ => exact ⟨(sW_3 ..).trans rfl, by decide, by decide⟩
  | 4, _ =>
    refine ⟨(sW_top ..).trans rfl, (sW_top ..).trans rfl, (sW_top ..).trans rfl, by decide, by decide, by decide, by decide, Nat.le_refl _, by decide, Or.inr ⟨_, _, rfl, by rw [sW_size]; omega, fun j hj => ?_⟩⟩
    match j, hj with
    | 0, _ => exact ⟨(sW_4 ..).trans rfl, by decide, by decide⟩
    | 1, _ => exact ⟨(sW_4 ..).trans rfl, by decide, by decide⟩

theorem result_cell {P : Program} {fn : Func} {s : Tmp} {t : TypeId} {tmps : Array Value} {w : World} {b : Nat} {v : Value} (h : fn.results = #[.cell s t]) (hp : tmps[s]? = some (.pointer (some ⟨b, 0, none⟩))) (hl : (loadVar t ⟨b, 0, none⟩).run P w = .ok v w) : (results fn tmps).run P w = .ok v w := by
  simp [results, h, hp, asAddr, hl]

theorem small4_any (w : World) : Calls Try.prog 43 #[] w fun e w' => ∃ a FA, e = .returned (gv 2027 1013 4 9 a 5 5) ∧ RowsIn w' a 5 sN sA FA sL sL sF ∧ Old w w' := by
  have hi : (Try.prog.info? 25).map (·.size) = some 5 := by kernel_rfl
  go_enter Try.func43, Try.ntmps43
  go_wp2_with fail
  refine bodyPost_ret (v := gv 2027 1013 4 9 (some ⟨w.heap.size + 1 + 1 + 1 + 1 + 1 + 1, 0, none⟩) 5 5) (result_cell (b := w.heap.size) rfl rfl (run_loadVar_row _ _ 25 _ _ (0, 0) _ ?_ Try.underlying25 rfl hi)) rfl ⟨_, _, rfl, sW_rows w _ _ _, ((Old.refl w).alloc _).trans (sW_old w _ _ _)⟩
  refine ((sW_old w _ _ _).block _ (by simp)).trans ?_
  unfold World.alloc
  simp

end Go.Proofs.Ytokhpppealdfmaf

namespace Go.Proofs.Ytokhpppealdfmaf
open Go.RowKit

set_option maxHeartbeats 1000000 in
theorem group5_any (P Q G H : Int) (a : Option Addr) (n cap : Nat) (N A : Nat → Int) (FA : Nat → Option Addr) (L C : Nat → Nat) (F : Nat → Nat → Int) (w : World) (h4 : Four P Q G H) (hin : RowsIn w a n N A FA L C F) :
    Calls Try.prog 10 #[gv P Q G H a n cap] w fun e w' => e = .returned (.bool (fewB L n && rightI P Q G H N A F L n)) ∧ Old w w' := by
  have HI : Hid (RowsIn w a n N A FA L C F) := hin
  have HR : Hid (n ≤ 80 → ∀ wx, Beh w P Q G H a n cap wx → Calls Try.prog 45 #[gv P Q G H a n cap] wx fun e w' => e = .returned (.bool (rightI P Q G H N A F L n)) ∧ Beh w P Q G H a n cap w') := fun hn wx hb => (rright_any P Q G H a n cap N A FA L C F wx hn (hin.old hb.old) h4.q0 h4.q1 h4.g1 h4.h1).mono fun e w' ⟨h, k⟩ => ⟨h, hb.then k⟩
  have HF : Hid (∀ wx, Beh w P Q G H a n cap wx → wx.cell? ⟨w.heap.size, 0, none⟩ = some (.int .u64 P) ∧ wx.cell? ⟨w.heap.size, 1, none⟩ = some (.int .u64 Q) ∧ wx.cell? ⟨w.heap.size, 2, none⟩ = some (.int .u64 G) ∧ wx.cell? ⟨w.heap.size, 3, none⟩ = some (.int .u64 H) ∧ wx.cell? ⟨w.heap.size, 4, none⟩ = some (.slice a n cap)) := fun _ hb => ⟨hb.cell rfl, hb.cell rfl, hb.cell rfl, hb.cell rfl, hb.cell rfl⟩
  clear hin h4
  generalize rightI P Q G H N A F L n = R at *
  by_cases h80 : 80 < n
  · have HN : Hid (fewB L n = false) := no_of fun hc => by have := (fewB_iff.1 hc).1; omega
    go_enter Try.func10, Try.ntmps10
    go_wp2_with fail
    go_ret
    exact ⟨ret_bool (by rw [HN.out]; rfl), (Old.refl _).alloc _⟩
  go_enter Try.func10, Try.ntmps10
  go_wp2_with fail
  go_loopw [12] (fun iv wx => ∃ i : Nat, iv = .int .i64 (i : Int) ∧ i ≤ n ∧ Hid (Beh w P Q G H a n cap wx) ∧ Hid (∀ j, j < i → L j ≤ 40)) (fun iv _ => n - (intOf iv).toNat)
  case atStart => exact ⟨0, rfl, Nat.zero_le _, Beh.new .., fun j hj => by omega⟩
  case round =>
    obtain ⟨i, rfl, hi, HB, HJ⟩ := hrel
    by_cases hlt : i < n
    · rcases HI.out.old HB.out.old with h0 | ⟨b, off, rfl, hb, hr⟩
      · omega
      have r := hr i hlt
      clear hr
      obtain ⟨c0, c1, c2⟩ := (⟨r.c0, r.c1, r.c2⟩ : _ ∧ _ ∧ _)
      clear r
      by_cases h40 : 40 < L i
      · have HN : Hid (fewB L n = false) := no_of fun hc => by have := (fewB_iff.1 hc).2 i hlt; omega
        go_wp2_with fail
        go_ret
        exact ⟨ret_bool (by rw [HN.out]; rfl), HB.out.old.alloc _⟩
      · have HM : Hid (L i ≤ 40) := Nat.le_of_not_lt h40
        go_wp2_with fail
        go_roundw
        case rel => exact ⟨i + 1, idx_next i, by omega, HB.out.then ((Old.refl _).alloc _), upto_succ HJ.out HM.out⟩
        case measure => simp [intOf]; omega
    · have he : i = n := by omega
      subst he
      have HN : Hid (fewB L i = true) := fewB_iff.2 ⟨by omega, HJ.out⟩
      have HR' : Hid (∀ wx, Beh w P Q G H a i cap wx → Calls Try.prog 45 #[gv P Q G H a i cap] wx fun e w' => e = .returned (.bool R) ∧ Beh w P Q G H a i cap w') := HR.out (by omega)
      obtain ⟨d0, d1, d2, d3, d4⟩ := HF.out _ HB.out
      go_wp2_with (go_at_call 45; refine (HR'.out _ HB.out).mono ?_; rintro e w1 ⟨rfl, hb1⟩)
      go_ret
      exact ⟨ret_bool (by rw [HN.out]; rfl), hb1.old⟩

/-- All elements? -/
def allB (P Q : Int) (F : Nat → Int) (len : Nat) : Bool := (List.range len).all fun i => inI P Q (F i)
theorem allB_iff {P Q : Int} {F : Nat → Int} {len : Nat} : allB P Q F len = true ↔ ∀ i, i < len → inI P Q (F i) = true := by
  simp [allB]
end Go.Proofs.Ytokhpppealdfmaf

namespace Go.Proofs.Ytokhpppealdfmaf
open Go.RowKit

theorem sm_key : expI 2027 1013 4 7 = 168 := by decide +kernel
theorem sm_u : mulI 1 (expI 2027 1013 4 11) 2027 = 441 := by decide +kernel
theorem sm_v : mulI 36 (expI 2027 1013 168 11) 2027 = 740 := by decide +kernel
theorem sm_share : expI 2027 1013 441 7 = 471 := by decide +kernel
theorem sm_in : inI 2027 1013 471 = true := by decide +kernel
theorem sm_open : overI 2027 740 (prodI 2027 (fun _ => 471) 1) = 36 := by
  refine Righ.over_is (G := 4) small_righ ?_ (by decide) (by decide) ?_
  · decide +kernel
  · decide +kernel
theorem facs_one (w : World) (x : Int) (t : TypeId) (hx : U64 x) : FacsIn (w.alloc (.cells #[.int .u64 x] t)) (some ⟨w.heap.size, 0, none⟩) 1 (fun _ => x) := by
  refine Or.inr ⟨_, _, rfl, by simp, fun j hj => ?_⟩
  match j, hj with
  | 0, _ => exact ⟨(World.cell?_alloc_mark w _ t (0, 0) 0).trans rfl, hx.1, hx.2⟩
theorem u64_of {x : Int} (h : 0 ≤ x) (h' : x ≤ 18446744073709551615) : U64 x := ⟨h, h'⟩
theorem four_sm : Four 2027 1013 4 9 := ⟨by decide, by decide, by decide, by decide, by decide, by decide, by decide, by decide⟩
theorem pair_early {x W : World} {p q : Value} {t : TypeId} (h : Old (x.alloc (.cells #[p, q] t)) W) : W.heap[x.heap.size]? = some (.cells #[p, q] t (0, 0)) := by
  rw [h.block _ (by simp)]
  exact heap_alloc_last x _
theorem Lain.far {w W : World} {l : List (Array Value × TypeId)} (h : Lain w l W) {b : Nat} (hb : w.heap.size + l.length ≤ b) (j : Nat) (v : Value) : Lain w l (W.setCell ⟨b, j, none⟩ v) := by
  refine ⟨h.old.setCell (by show w.heap.size ≤ b; omega) _, fun i hi => ?_, by simpa [World.setCell] using h.size⟩
  rw [Deep.blk_setCell_other _ _ _ _ (by show w.heap.size + i ≠ b; omega)]
  exact h.row i hi
theorem pair_done {w W : World} {l : List (Array Value × TypeId)} {b : Nat} {p q : Value} {t : TypeId} (hL : Lain w l W) (hrow : W.heap[b]? = some (.cells #[p, q] t (0, 0))) (hb : w.heap.size + l.length ≤ b) (x y : Value) :
    Lain w l ((W.setCell ⟨b, 0, none⟩ x).setCell ⟨b, 1, none⟩ y) ∧ w.heap.size + l.length ≤ b ∧ ((W.setCell ⟨b, 0, none⟩ x).setCell ⟨b, 1, none⟩ y).cell? ⟨b, 0, none⟩ = some x ∧ ((W.setCell ⟨b, 0, none⟩ x).setCell ⟨b, 1, none⟩ y).cell? ⟨b, 1, none⟩ = some y := by
  have h := set_row (set_row hrow 0 x) 1 y
  refine ⟨(hL.far hb 0 x).far hb 1 y, hb, ?_, ?_⟩
  · rw [cell_of_row _ _ 0 _ _ (0, 0) h]; simp
  · rw [cell_of_row _ _ 1 _ _ (0, 0) h]; simp
theorem pair_last {w W : World} {l : List (Array Value × TypeId)} (hL : Lain w l W) (x y : Value) (t : TypeId) :
    Lain w l (W.alloc (.cells #[x, y] t)) ∧ w.heap.size + l.length ≤ W.heap.size ∧ (W.alloc (.cells #[x, y] t)).cell? ⟨W.heap.size, 0, none⟩ = some x ∧ (W.alloc (.cells #[x, y] t)).cell? ⟨W.heap.size, 1, none⟩ = some y :=
  ⟨hL.then ((Old.refl _).alloc _), hL.size, (World.cell?_alloc_mark W _ t (0, 0) 0).trans rfl, (World.cell?_alloc_mark W _ t (0, 0) 1).trans rfl⟩

end Go.Proofs.Ytokhpppealdfmaf

namespace Go.Proofs.Ytokhpppealdfmaf
open Go.RowKit

theorem u64info : (Try.prog.info? 22).map (fun i => (i.zero, i.size, i.bytes)) = some (some (.int .u64 0), 1, 8) := by kernel_rfl

/-- A list of its own with these numbers. -/
def Nums (w : World) (base : Nat) (v : Value) (k : Nat) (F : Nat → Int) : Prop := w.ownsRow base 22 1 v k ((List.range k).map fun i => Value.int .u64 (F i))
theorem nums_nil (w : World) (base : Nat) (F : Nat → Int) : Nums w base (.slice none 0 0) 0 F := World.ownsRow_nil _ _ _ _
theorem Nums.old {w w' : World} {base k : Nat} {v : Value} {F : Nat → Int} (h : Nums w base v k F) (ho : Old w w') : Nums w' base v k F := by
  refine ⟨h.1, ?_⟩
  rcases h.2 with hn | ⟨g, cap, cur, hv, hb, hg, rest⟩
  · exact Or.inl hn
  · exact Or.inr ⟨g, cap, cur, hv, hb, (ho.block g (Array.getElem?_eq_some_iff.1 hg).1).trans hg, rest⟩
theorem Nums.facs {w : World} {base k : Nat} {v : Value} {F : Nat → Int} (h : Nums w base v k F) (hF : ∀ i, i < k → U64 (F i)) : ∃ b c, v = .slice b k c ∧ k ≤ c ∧ FacsIn w b k F := by
  have h' := h
  rcases h.2 with ⟨rfl, rfl⟩ | ⟨g, cap, cur, rfl, hb, hg, hc, _⟩
  · exact ⟨none, 0, rfl, Nat.le_refl _, Or.inl rfl⟩
  · refine ⟨some ⟨g, 0, none⟩, cap, rfl, hc, Or.inr ⟨g, 0, rfl, (Array.getElem?_eq_some_iff.1 hg).1, fun j hj => ⟨?_, hF j hj⟩⟩⟩
    rw [Nat.zero_add, World.ownsRow.cellAt h' j (by omega)]
    simp [List.getElem?_map, List.getElem?_range hj]
theorem Nums.app {w : World} {base k : Nat} {v : Value} {F : Nat → Int} {x : Int} (h : w.ownsRow base 22 1 v (k + 1) ((List.range k).map (fun i => Value.int .u64 (F i)) ++ [.int .u64 x])) (hx : F k = x) : Nums w base v (k + 1) F := by
  unfold Nums
  rw [List.range_succ, List.map_append]
  simpa [hx] using h
theorem Old.grown {a w w' : World} {row : Option Nat} (h : Old a w) (hg : w.grownBy w' row) (hr : ∀ k, row = some k → a.heap.size ≤ k) : Old a w' :=
  ⟨hg.os.trans h.os, hg.output.trans h.output, Nat.le_trans h.size hg.size, fun k hk => (hg.block k (Nat.lt_of_lt_of_le hk h.size) (fun e => by have := hr k e.symm; omega)).trans (h.block k hk)⟩
theorem Nums.grown {a w w' : World} {k : Nat} {v : Value} {F : Nat → Int} {o : Obj} (h : Nums w a.heap.size v k F) (ho : Old a w) (hg : (w.alloc o).grownBy w' v.ownBlock) : Old a w' :=
  (ho.alloc o).grown hg fun k hk => (World.ownsRow.lt h k hk).1

/-- What stands behind the first. -/
theorem facs_tail {w : World} {b off l : Nat} {D : Nat → Int} (h : FacsIn w (some ⟨b, off, none⟩) l D) : FacsIn w (some ⟨b, off + 1, none⟩) (l - 1) (fun i => D (i + 1)) := by
  rcases h with h | ⟨_, _, hq, hb, hr⟩
  · exact Or.inl (by omega)
  · cases hq
    exact Or.inr ⟨b, off + 1, rfl, hb, fun j hj => by have := hr (j + 1) (by omega); rwa [← Nat.add_assoc, Nat.add_right_comm] at this⟩
theorem FacsIn.u64 {w : World} {b : Option Addr} {l : Nat} {D : Nat → Int} (h : FacsIn w b l D) : ∀ i, i < l → U64 (D i) := fun i hi => by
  rcases h with h0 | ⟨_, _, _, _, h⟩
  · omega
  · exact (h i hi).2

/-- A pair in its block behind what was laid out. -/
structure Pd (w : World) (l : List (Array Value × TypeId)) (b : Nat) (u v : Int) (W : World) : Prop where
  lain : Lain w l W
  far : w.heap.size + l.length ≤ b
  row : W.heap[b]? = some (.cells #[.int .u64 u, .int .u64 v] 58 (0, 0))
theorem Pd.then {w W W' : World} {l : List (Array Value × TypeId)} {b : Nat} {u v : Int} (h : Pd w l b u v W) (ho : Old W W') : Pd w l b u v W' :=
  ⟨h.lain.then ho, h.far, (ho.block _ (Array.getElem?_eq_some_iff.1 h.row).1).trans h.row⟩
theorem Pd.c0 {w W : World} {l : List (Array Value × TypeId)} {b : Nat} {u v : Int} (h : Pd w l b u v W) : W.cell? ⟨b, 0, none⟩ = some (.int .u64 u) := cell_of_row _ _ 0 _ _ (0, 0) h.row
theorem Pd.c1 {w W : World} {l : List (Array Value × TypeId)} {b : Nat} {u v : Int} (h : Pd w l b u v W) : W.cell? ⟨b, 1, none⟩ = some (.int .u64 v) := cell_of_row _ _ 1 _ _ (0, 0) h.row
theorem Pd.set {w W : World} {l : List (Array Value × TypeId)} {b : Nat} {p q : Int} (h : Pd w l b p q W) (u v : Int) : Pd w l b u v ((W.setCell ⟨b, 0, none⟩ (.int .u64 u)).setCell ⟨b, 1, none⟩ (.int .u64 v)) :=
  ⟨(h.lain.far h.far 0 _).far h.far 1 _, h.far, by have := set_row (set_row h.row 0 (.int .u64 u)) 1 (.int .u64 v); simpa using this⟩
theorem Pd.last {w W : World} {l : List (Array Value × TypeId)} (h : Lain w l W) (u v : Int) : Pd w l W.heap.size u v (W.alloc (.cells #[.int .u64 u, .int .u64 v] 58)) :=
  ⟨h.then ((Old.refl _).alloc _), h.size, heap_alloc_last W _⟩
theorem Pd.early {w x W : World} {l : List (Array Value × TypeId)} {u v : Int} (h : Lain w l x) (ho : Old (x.alloc (.cells #[.int .u64 u, .int .u64 v] 58)) W) : Pd w l x.heap.size u v W := (Pd.last h u v).then ho

/-- Sealed for the key y: m, by some draw. -/
structure Sld (P Q G m y u v : Int) : Prop where
  u0 : U64 u
  v0 : U64 v
  ui : inI P Q u = true
  by_ : ∃ R : Nat, u % P = G ^ R % P ∧ v % P = m * y ^ R % P
theorem Righ.sld {P Q G m y r : Int} (h : Righ P Q G) (hy : inI P Q y = true) (hr : 0 ≤ r) : Sld P Q G m y (mulI 1 (expI P Q G r) P) (mulI m (expI P Q y r) P) := by
  refine ⟨u64_mul _ _ _, u64_mul _ _ _, h.mul_in h.one_in (h.exp_in h.gin), r.toNat, ?_, ?_⟩
  · rw [mul_cong h.ok rfl (h.exp_cong h.gin hr), Int.one_mul]
  · rw [mul_cong h.ok rfl (h.exp_cong hy hr)]
theorem Sld.again {P Q G m y u v r : Int} (s : Sld P Q G m y u v) (h : Righ P Q G) (hy : inI P Q y = true) (hr : 0 ≤ r) : Sld P Q G m y (mulI u (expI P Q G r) P) (mulI v (expI P Q y r) P) := by
  obtain ⟨R, hu, hv⟩ := s.by_
  refine ⟨u64_mul _ _ _, u64_mul _ _ _, h.mul_in s.ui (h.exp_in h.gin), R + r.toNat, ?_, ?_⟩
  · rw [mul_cong h.ok hu (h.exp_cong h.gin hr), Int.pow_add]
  · rw [mul_cong h.ok hv (h.exp_cong hy hr), Int.pow_add, Int.mul_assoc]
theorem Sld.opens {P Q G m y u v : Int} {X : Nat → Int} {k : Nat} (s : Sld P Q G m y u v) (h : Righ P Q G) (hm : inI P Q m = true) (hX : ∀ i, i < k → 0 ≤ X i) (hy : y = prodI P (fun i => expI P Q G (X i)) k) : overI P v (prodI P (fun i => expI P Q u (X i)) k) = m := by
  obtain ⟨R, hu, hv⟩ := s.by_
  exact h.opens hm hu hv (hy ▸ h.keys_cong h.gin X k hX) (h.keys_cong s.ui X k hX) (h.prod_in k fun i _ => h.exp_in s.ui)

end Go.Proofs.Ytokhpppealdfmaf

namespace Go.Proofs.Ytokhpppealdfmaf

/-- The image of exponents in a row of n bases. -/
def imI (P Q : Int) (B W : Nat → Int) (n : Nat) : Int := prodI P (fun k => expI P Q (B k) (W k)) n
/-- The product of powers as it is. -/
def pw (B W : Nat → Int) : Nat → Int
  | 0 => 1
  | k + 1 => pw B W k * B k ^ (W k).toNat
theorem Righ.im_cong {P Q G : Int} (h : Righ P Q G) {B W : Nat → Int} : ∀ n, (∀ k, k < n → inI P Q (B k) = true) → (∀ k, k < n → 0 ≤ W k) → imI P Q B W n % P = pw B W n % P
  | 0, _, _ => rfl
  | n + 1, hB, hW => by
    show mulI (imI P Q B W n) (expI P Q (B n) (W n)) P % P = pw B W n * B n ^ (W n).toNat % P
    exact mul_cong h.ok (h.im_cong n (fun k hk => hB k (by omega)) (fun k hk => hW k (by omega))) (h.exp_cong (hB n (by omega)) (hW n (by omega)))
theorem Righ.im_in {P Q G : Int} (h : Righ P Q G) {B W : Nat → Int} (n : Nat) (hB : ∀ k, k < n → inI P Q (B k) = true) : inI P Q (imI P Q B W n) = true :=
  h.prod_in n fun k hk => h.exp_in (hB k hk)
/-- An element is what it leaves. -/
theorem Righ.same {P Q G a b : Int} (h : Righ P Q G) (ha : inI P Q a = true) (hb : inI P Q b = true) (he : a % P = b % P) : a = b := by
  rwa [h.self ha, h.self hb] at he
theorem Righ.okq {P Q G : Int} (h : Righ P Q G) : okM Q = true := by
  have := h.q0; have := h.q1
  exact okM_of (by omega) (by omega)
theorem exp_mod {P Q x a b : Int} (h : a % Q = b % Q) : expI P Q x a = expI P Q x b := by unfold expI; rw [h]
theorem im_mod {P Q : Int} {B V W : Nat → Int} : ∀ n, (∀ k, k < n → V k % Q = W k % Q) → imI P Q B V n = imI P Q B W n
  | 0, _ => rfl
  | n + 1, h => by
    show mulI (imI P Q B V n) (expI P Q (B n) (V n)) P = mulI (imI P Q B W n) (expI P Q (B n) (W n)) P
    rw [im_mod n (fun k hk => h k (by omega)), exp_mod (h n (by omega))]

/-- An answer, a draw, what is extracted, at one place. -/
def ansI (Q e w d : Int) : Int := addI d (mulI e w Q) Q
def drwI (Q e w z : Int) : Int := subI z (mulI e w Q) Q
def exI (Q b z y : Int) : Int := mulI b (subI z y Q) Q
theorem ans_mod {Q e w d : Int} (h : okM Q = true) : ansI Q e w d % Q = (d + e * w) % Q := by
  unfold ansI
  rw [addI_yes h, mod_self, mulI_yes h]
  exact cong_add rfl (mod_self _ _)
theorem drw_ans {Q e w d : Int} (h : okM Q = true) : drwI Q e w (ansI Q e w d) = d % Q := by
  unfold drwI
  rw [subI_yes h, cong_sub (ans_mod h) (show mulI e w Q % Q = e * w % Q by rw [mulI_yes h, mod_self]), Int.add_sub_cancel]
theorem ex_mod {Q b z y : Int} (h : okM Q = true) : exI Q b z y % Q = b * (z - y) % Q := by
  unfold exI
  rw [mulI_yes h, mod_self, subI_yes h]
  exact cong_mul rfl (mod_self _ _)

theorem pw_ans {e : Int} {B W D Z : Nat → Int} (he : 0 ≤ e) : ∀ n, (∀ k, k < n → 0 ≤ W k) → (∀ k, k < n → 0 ≤ D k) → (∀ k, k < n → Z k = D k + e * W k) → pw B Z n = pw B D n * pw B W n ^ e.toNat
  | 0, _, _, _ => by show (1 : Int) = 1 * 1 ^ e.toNat; rw [Int.one_pow, Int.one_mul]
  | n + 1, hW, hD, hZ => by
    show pw B Z n * B n ^ (Z n).toNat = pw B D n * B n ^ (D n).toNat * (pw B W n * B n ^ (W n).toNat) ^ e.toNat
    have hw := hW n (by omega)
    have hd := hD n (by omega)
    have hew : 0 ≤ e * W n := Int.mul_nonneg he hw
    rw [pw_ans he n (fun k hk => hW k (by omega)) (fun k hk => hD k (by omega)) (fun k hk => hZ k (by omega)), hZ n (by omega), Int.toNat_add hd hew, Int.toNat_mul he hw, Int.pow_add, Nat.mul_comm, Int.pow_mul, Int.mul_pow]
    simp only [Int.mul_assoc, Int.mul_comm, Int.mul_left_comm]

/-- Of a claim that holds the talk is accepted: the image of the answers. -/
theorem Righ.im_ans {P Q G e : Int} (h : Righ P Q G) {B W D : Nat → Int} (n : Nat) (hB : ∀ k, k < n → inI P Q (B k) = true) (hW : ∀ k, k < n → 0 ≤ W k) (hD : ∀ k, k < n → 0 ≤ D k) (he : 0 ≤ e) :
    imI P Q B (fun k => ansI Q e (W k) (D k)) n = mulI (imI P Q B D n) (expI P Q (imI P Q B W n) e) P := by
  rw [im_mod (W := fun k => D k + e * W k) n (fun k _ => ans_mod h.okq)]
  refine h.same (h.im_in n hB) (h.mul_in (h.im_in n hB) (h.exp_in (h.im_in n hB))) ?_
  rw [h.im_cong n hB (fun k hk => Int.add_nonneg (hD k hk) (Int.mul_nonneg he (hW k hk))), mul_cong h.ok (h.im_cong n hB hD) ((h.exp_cong (h.im_in n hB) he).trans (cong_pow (h.im_cong n hB hW) _)), pw_ans he n hW hD (fun _ _ => rfl)]
/-- What is faked of a real talk is its beginning. -/
theorem Righ.fake_ans {P Q G e : Int} (h : Righ P Q G) {B W D : Nat → Int} (n : Nat) (hB : ∀ k, k < n → inI P Q (B k) = true) (hW : ∀ k, k < n → 0 ≤ W k) (hD : ∀ k, k < n → 0 ≤ D k) (he : 0 ≤ e) :
    overI P (imI P Q B (fun k => ansI Q e (W k) (D k)) n) (expI P Q (imI P Q B W n) e) = imI P Q B D n := by
  have hi := h.im_in (W := D) n hB
  refine h.over_is (h.exp_in (h.im_in n hB)) (h.lt hi).1 (h.lt hi).2 ?_
  rw [h.im_ans n hB hW hD he, mulI_yes h.ok, mod_self]
/-- What is faked is accepted. -/
theorem Righ.fake_acc {P Q G x t : Int} (h : Righ P Q G) (hx : inI P Q x = true) (ht : inI P Q t = true) : mulI (overI P x t) t P = x := by
  refine h.same (h.mul_in (h.over_in hx ht) ht) hx ?_
  rw [mulI_yes h.ok, mod_self]
  exact h.over_cong ht x

/-- What is no multiple of a prime has an inverse modulo it. -/
theorem inv_prim {q s : Nat} (hq : prim q) (h0 : 0 < s) (h1 : s < q) : ∃ n, n < q ∧ s * n % q = 1 := by
  have hq2 := hq.1
  have hnd : ((List.range q).map fun k => s * k % q).Nodup := by
    refine nodup_map_range _ q fun i j hij hj he => ?_
    have hd : q ∣ s * j - s * i := Nat.dvd_of_mod_eq_zero (Nat.sub_mod_eq_zero_of_mod_eq he.symm)
    rw [← Nat.mul_sub] at hd
    rcases prim_or q s (j - i) hq hd with hc | hc
    · have := Nat.le_of_dvd h0 hc
      omega
    · have := Nat.le_of_dvd (by omega) hc
      omega
  have hfull := nodup_full _ (List.range q) hnd (fun x hx => by
    obtain ⟨k, _, rfl⟩ := List.mem_map.1 hx
    exact List.mem_range.2 (Nat.mod_lt _ (by omega))) (by simp) 1 (List.mem_range.2 (by omega))
  obtain ⟨k, hk, he⟩ := List.mem_map.1 hfull
  exact ⟨k, List.mem_range.1 hk, he⟩
/-- Unlike challenges: what makes 1 of their difference. -/
theorem Righ.inv_sub {P Q G e f : Int} (h : Righ P Q G) (hne : e % Q ≠ f % Q) : invB (subI e f Q) Q = true ∧ (subI e f Q) * invI (subI e f Q) Q % Q = 1 := by
  have hq := h.q0
  have hb := mod_bd (e - f) h.okq
  have hs : subI e f Q = (e - f) % Q := subI_yes h.okq
  have hnz : (e - f) % Q ≠ 0 := fun hc => hne (Int.emod_eq_emod_iff_emod_sub_eq_zero.2 hc)
  obtain ⟨n, hn, he⟩ := inv_prim h.grp.pq (s := ((e - f) % Q).toNat) (by omega) (by omega)
  have key : (subI e f Q) * (n : Int) % Q = 1 := by
    rw [hs]
    have e1 : (((((e - f) % Q).toNat * n % Q.toNat : Nat)) : Int) = 1 := by rw [he]; rfl
    rwa [Int.natCast_emod, Int.natCast_mul, Int.toNat_of_nonneg hb.1, Int.toNat_of_nonneg (by omega)] at e1
  obtain ⟨a, b⟩ := inv_has h.okq (by omega) (by omega) key
  exact ⟨a, by rw [b]; exact key⟩
theorem sub_same {Q e f : Int} (h : okM Q = true) (he : e % Q = f % Q) : invB (subI e f Q) Q = false := by
  have hs : subI e f Q = 0 := by
    rw [subI_yes h, cong_sub he rfl, Int.sub_self, Int.zero_emod]
  have h2 := okM_yes h
  rw [hs]
  exact (inv_not (g := Q) h (by omega) (Int.dvd_refl _) (Int.dvd_zero _)).1

/-- What is extracted of two talks by the same draws. -/
theorem Righ.ex_ans {P Q G e f w d : Int} (h : Righ P Q G) (hne : e % Q ≠ f % Q) : exI Q (invI (subI e f Q) Q) (ansI Q e w d) (ansI Q f w d) = w % Q := by
  have hi := (h.inv_sub hne).2
  generalize hI : invI (subI e f Q) Q = I at *
  rw [subI_yes h.okq] at hi
  have hx : exI Q I (ansI Q e w d) (ansI Q f w d) = exI Q I (ansI Q e w d) (ansI Q f w d) % Q := by
    unfold exI
    rw [mulI_yes h.okq, mod_self]
  rw [hx, ex_mod h.okq, cong_mul (a := I) (b := I) rfl (cong_sub (ans_mod h.okq) (ans_mod h.okq)), show I * (d + e * w - (d + f * w)) = (e - f) * I * w by rw [show d + e * w - (d + f * w) = (e - f) * w by rw [Int.sub_mul]; omega, Int.mul_comm (e - f) I, Int.mul_assoc]]
  rw [cong_mul (b := 1) (c := w) (d := w) ?_ rfl, Int.one_mul]
  rw [cong_mul (a := e - f) (b := (e - f) % Q) (mod_self _ _).symm rfl, hi]
  have := h.q0
  exact (Int.emod_eq_of_lt (by omega) (by omega)).symm

theorem pw_zero {B : Nat → Int} : ∀ n, pw B (fun _ => 0) n = 1
  | 0 => rfl
  | n + 1 => by
    show pw B (fun _ => 0) n * B n ^ (0 : Int).toNat = 1
    rw [pw_zero n]
    show (1 : Int) * B n ^ 0 = 1
    rw [Int.pow_zero, Int.one_mul]
theorem subI_nn (a b m : Int) : 0 ≤ subI a b m := (subI_bd a b m).1
theorem sub_back {a b m : Int} (h : okM m = true) : (subI a b m + b) % m = a % m := by
  rw [subI_yes h, cong_add (mod_self (a - b) m) rfl, Int.sub_add_cancel]
/-- Of two accepted talks with one beginning and unlike challenges: what the claim holds for. -/
theorem Righ.extracts {P Q G e f T t : Int} (h : Righ P Q G) {B z y : Nat → Int} (n : Nat) (hB : ∀ k, k < n → inI P Q (B k) = true) (hy : ∀ k, k < n → 0 ≤ y k) (he : 0 ≤ e) (hf : 0 ≤ f) (hT : inI P Q T = true)
    (hne : e % Q ≠ f % Q) (a1 : imI P Q B z n = mulI t (expI P Q T e) P) (a2 : imI P Q B y n = mulI t (expI P Q T f) P) : imI P Q B (fun k => exI Q (invI (subI e f Q) Q) (z k) (y k)) n = T := by
  have hI := (h.inv_sub hne).2
  have hI0 := (invI_bd (subI e f Q) Q).1
  have hs0 := subI_nn e f Q
  have hsb : (subI e f Q + f) % Q = e % Q := sub_back h.okq
  generalize invI (subI e f Q) Q = I at *
  generalize subI e f Q = s at *
  -- the difference of the answers
  have c1 : imI P Q B (fun k => subI (z k) (y k) Q) n * imI P Q B y n % P = imI P Q B z n % P := by
    rw [← im_mod (P := P) (B := B) (V := fun k => subI (z k) (y k) Q + 1 * y k) (W := z) n (fun k _ => by rw [Int.one_mul]; exact sub_back h.okq)]
    rw [h.im_cong n hB (W := fun k => subI (z k) (y k) Q + 1 * y k) (fun k hk => Int.add_nonneg (subI_nn _ _ _) (by rw [Int.one_mul]; exact hy k hk)), pw_ans (D := fun k => subI (z k) (y k) Q) (W := y) (e := 1) (by omega) n hy (fun k _ => subI_nn _ _ _) (fun _ _ => rfl)]
    rw [show (1 : Int).toNat = 1 from rfl, Int.pow_succ, Int.pow_zero, Int.one_mul]
    exact cong_mul (h.im_cong n hB (fun k _ => subI_nn _ _ _)) (h.im_cong n hB hy)
  -- it is the target to the difference of the challenges
  have c2 : imI P Q B (fun k => subI (z k) (y k) Q) n % P = T ^ s.toNat % P := by
    refine h.cancel (h.im_in (W := y) n hB) ?_
    rw [c1, a1, mul_cong h.ok rfl (h.exp_cong hT he)]
    have e1 : T ^ e.toNat % P = T ^ s.toNat * T ^ f.toNat % P := by
      rw [← h.exp_cong hT he, exp_mod hsb.symm, h.exp_cong hT (by omega), Int.toNat_add hs0 hf, Int.pow_add]
    have e2 : T ^ s.toNat * imI P Q B y n % P = T ^ s.toNat * (t * T ^ f.toNat) % P := by
      rw [a2]
      exact cong_mul rfl (mul_cong h.ok rfl (h.exp_cong hT hf))
    rw [e2, cong_mul (a := t) (b := t) rfl e1]
    congr 1
    simp only [Int.mul_left_comm]
  refine h.same (h.im_in n hB) hT ?_
  rw [im_mod (P := P) (B := B) (W := fun k => 0 + I * subI (z k) (y k) Q) n (fun k _ => by
    rw [Int.zero_add]
    unfold exI
    rw [mulI_yes h.okq, mod_self])]
  rw [h.im_cong n hB (fun k _ => by rw [Int.zero_add]; exact Int.mul_nonneg hI0 (subI_nn _ _ _)), pw_ans (D := fun _ => 0) (W := fun k => subI (z k) (y k) Q) hI0 n (fun k _ => subI_nn _ _ _) (fun _ _ => Int.le_refl 0) (fun _ _ => rfl), pw_zero, Int.one_mul]
  rw [cong_pow ((h.im_cong n hB (fun k _ => subI_nn _ _ _)).symm.trans c2) I.toNat, ← Int.pow_mul, ← Int.toNat_mul hs0 hI0, ← h.exp_cong hT (Int.mul_nonneg hs0 hI0), exp_mod (b := 1) ?_, h.exp_cong hT (by omega)]
  · show T ^ 1 % P = T % P
    rw [Int.pow_succ, Int.pow_zero, Int.one_mul]
  · have := h.q0
    rw [hI]
    exact (Int.emod_eq_of_lt (by omega) (by omega)).symm

end Go.Proofs.Ytokhpppealdfmaf

namespace Go.Proofs.Ytokhpppealdfmaf
open Go.RowKit

/-- Lists of numbers that lie one behind the other. -/
def ListsIn (w : World) (a : Option Addr) (n : Nat) (BA : Nat → Option Addr) (L C : Nat → Nat) (B : Nat → Nat → Int) : Prop :=
  n = 0 ∨ ∃ b off, a = some ⟨b, off, none⟩ ∧ b < w.heap.size ∧ ∀ j, j < n → w.cell? ⟨b, off + j, none⟩ = some (.slice (BA j) (L j) (C j)) ∧ L j ≤ C j ∧ C j ≤ 9223372036854775807 ∧ FacsIn w (BA j) (L j) (B j)
theorem ListsIn.old {w w' : World} {a : Option Addr} {n : Nat} {BA : Nat → Option Addr} {L C : Nat → Nat} {B : Nat → Nat → Int} (h : ListsIn w a n BA L C B) (ho : Old w w') : ListsIn w' a n BA L C B := by
  rcases h with h | ⟨b, off, ha, hb, hr⟩
  · exact Or.inl h
  · exact Or.inr ⟨b, off, ha, Nat.lt_of_lt_of_le hb ho.size, fun j hj => ⟨ho.cellOf (hr j hj).1, (hr j hj).2.1, (hr j hj).2.2.1, (hr j hj).2.2.2.old ho⟩⟩
theorem ListsIn.facs {w : World} {a : Option Addr} {n : Nat} {BA : Nat → Option Addr} {L C : Nat → Nat} {B : Nat → Nat → Int} (h : ListsIn w a n BA L C B) {j : Nat} (hj : j < n) : FacsIn w (BA j) (L j) (B j) := by
  rcases h with h | ⟨_, _, _, _, hr⟩
  · omega
  · exact (hr j hj).2.2.2

abbrev cv (bt : Option Addr) (nt ct : Nat) (bb : Option Addr) (nb cb : Nat) : Value := .agg #[.slice bt nt ct, .slice bb nb cb]
abbrev cc (bt : Option Addr) (nt ct : Nat) (bb : Option Addr) (nb cb : Nat) : Array Value := #[.slice bt nt ct, .slice bb nb cb]

/-- A claim in memory: targets, and rows of bases. -/
structure ClaimIn (w : World) (bt : Option Addr) (nt ct : Nat) (T : Nat → Int) (bb : Option Addr) (nb cb : Nat) (BA : Nat → Option Addr) (L C : Nat → Nat) (B : Nat → Nat → Int) : Prop where
  tc : nt ≤ ct
  tm : ct ≤ 9223372036854775807
  bc : nb ≤ cb
  bm : cb ≤ 9223372036854775807
  tar : FacsIn w bt nt T
  bas : ListsIn w bb nb BA L C B
theorem ClaimIn.old {w w' : World} {bt : Option Addr} {nt ct : Nat} {T : Nat → Int} {bb : Option Addr} {nb cb : Nat} {BA : Nat → Option Addr} {L C : Nat → Nat} {B : Nat → Nat → Int} (h : ClaimIn w bt nt ct T bb nb cb BA L C B) (ho : Old w w') : ClaimIn w' bt nt ct T bb nb cb BA L C B :=
  ⟨h.tc, h.tm, h.bc, h.bm, h.tar.old ho, h.bas.old ho⟩

/-- The rows up to k are right ones, of n bases. -/
def rowsB (P Q : Int) (T : Nat → Int) (L : Nat → Nat) (B : Nat → Nat → Int) (n k : Nat) : Bool :=
  (List.range k).all fun j => inI P Q (T j) && (decide (L j = n) && (List.range n).all fun i => inI P Q (B j i))
theorem rowsB_iff {P Q : Int} {T : Nat → Int} {L : Nat → Nat} {B : Nat → Nat → Int} {n k : Nat} : rowsB P Q T L B n k = true ↔ ∀ j, j < k → inI P Q (T j) = true ∧ L j = n ∧ ∀ i, i < n → inI P Q (B j i) = true := by
  simp [rowsB]
/-- How many exponents a claim is about. -/
def sizeN (P Q : Int) (nt : Nat) (T : Nat → Int) (nb : Nat) (L : Nat → Nat) (B : Nat → Nat → Int) : Nat :=
  if 1 ≤ nt ∧ nt ≤ 64 ∧ nb = nt ∧ 1 ≤ L 0 ∧ L 0 ≤ 64 ∧ rowsB P Q T L B (L 0) nt = true then L 0 else 0
/-- It is a claim, of n. -/
structure IsClaim (P Q : Int) (nt : Nat) (T : Nat → Int) (nb : Nat) (L : Nat → Nat) (B : Nat → Nat → Int) (n : Nat) : Prop where
  t1 : 1 ≤ nt
  t64 : nt ≤ 64
  nb : nb = nt
  n1 : 1 ≤ n
  n64 : n ≤ 64
  len : ∀ j, j < nt → L j = n
  tin : ∀ j, j < nt → inI P Q (T j) = true
  bin : ∀ j, j < nt → ∀ i, i < n → inI P Q (B j i) = true
theorem IsClaim.size {P Q : Int} {nt : Nat} {T : Nat → Int} {nb : Nat} {L : Nat → Nat} {B : Nat → Nat → Int} {n : Nat} (h : IsClaim P Q nt T nb L B n) : sizeN P Q nt T nb L B = n := by
  have h0 := h.len 0 h.t1
  unfold sizeN
  rw [if_pos ⟨h.t1, h.t64, h.nb, by rw [h0]; exact h.n1, by rw [h0]; exact h.n64, by rw [h0]; exact rowsB_iff.2 fun j hj => ⟨h.tin j hj, h.len j hj, h.bin j hj⟩⟩, h0]
theorem sizeN_claim {P Q : Int} {nt : Nat} {T : Nat → Int} {nb : Nat} {L : Nat → Nat} {B : Nat → Nat → Int} (h : sizeN P Q nt T nb L B ≠ 0) : IsClaim P Q nt T nb L B (sizeN P Q nt T nb L B) := by
  unfold sizeN at h ⊢
  split
  · rename_i hc
    obtain ⟨h1, h2, h3, h4, h5, h6⟩ := hc
    have h7 := rowsB_iff.1 h6
    exact ⟨h1, h2, h3, h4, h5, fun j hj => (h7 j hj).2.1, fun j hj => (h7 j hj).1, fun j hj => (h7 j hj).2.2⟩
  · rename_i hc
    rw [if_neg hc] at h
    exact absurd rfl h
theorem sizeN_le (P Q : Int) (nt : Nat) (T : Nat → Int) (nb : Nat) (L : Nat → Nat) (B : Nat → Nat → Int) : sizeN P Q nt T nb L B ≤ 64 := by
  unfold sizeN
  split
  · rename_i hc; exact hc.2.2.2.2.1
  · omega
theorem sizeN_no {P Q : Int} {nt : Nat} {T : Nat → Int} {nb : Nat} {L : Nat → Nat} {B : Nat → Nat → Int} (h : ¬ (1 ≤ nt ∧ nt ≤ 64 ∧ nb = nt ∧ 1 ≤ L 0 ∧ L 0 ≤ 64 ∧ rowsB P Q T L B (L 0) nt = true)) : sizeN P Q nt T nb L B = 0 := by
  unfold sizeN
  rw [if_neg h]

/-- The same numbers? -/
def sameB (n : Nat) (X : Nat → Int) (m : Nat) (Y : Nat → Int) : Bool := decide (n = m) && (List.range n).all fun i => X i == Y i
theorem sameB_iff {n m : Nat} {X Y : Nat → Int} : sameB n X m Y = true ↔ n = m ∧ ∀ i, i < n → X i = Y i := by
  simp [sameB]

end Go.Proofs.Ytokhpppealdfmaf

namespace Go.Proofs.Ytokhpppealdfmaf
open Go.RowKit

/-- A list of numbers of its own, and whether there is one. -/
def Gives (w : World) (ok : Bool) (k : Nat) (F : Nat → Int) (r : Ending) (w' : World) : Prop := ∃ v, r = .returned (.tuple #[v, .bool ok]) ∧ Nums w' w.heap.size v (if ok then k else 0) F ∧ Old w w'
theorem Nums.mono {w : World} {base base' k : Nat} {v : Value} {F : Nat → Int} (h : Nums w base v k F) (hb : base' ≤ base) : Nums w base' v k F := World.ownsRow.mono h hb

theorem gives_yes {w w' : World} {ok : Bool} {k : Nat} {F : Nat → Int} {v : Value} (hok : ok = true) (hN : Nums w' w.heap.size v k F) (ho : Old w w') : Gives w ok k F (.returned (.tuple #[v, .bool true])) w' := by
  subst hok
  exact ⟨v, rfl, by simpa using hN, ho⟩
theorem gives_no {w w' : World} {ok : Bool} {k : Nat} {F : Nat → Int} (hok : ok = false) (ho : Old w w') : Gives w ok k F (.returned (.tuple #[.slice none 0 0, .bool false])) w' := by
  subst hok
  exact ⟨_, rfl, by simpa using nums_nil w' w.heap.size F, ho⟩

set_option maxHeartbeats 1000000 in
theorem rsame_any (b1 : Option Addr) (n1 c1 : Nat) (X : Nat → Int) (b2 : Option Addr) (n2 c2 : Nat) (Y : Nat → Int) (w : World) (m1 : n1 ≤ 9223372036854775807) (h1 : FacsIn w b1 n1 X) (h2 : FacsIn w b2 n2 Y) :
    Calls Try.prog 18 #[.slice b1 n1 c1, .slice b2 n2 c2] w fun e w' => e = .returned (.bool (sameB n1 X n2 Y)) ∧ Old w w' := by
  have HX : Hid (FacsIn w b1 n1 X) := h1
  have HY : Hid (FacsIn w b2 n2 Y) := h2
  clear h1 h2
  by_cases hn : n1 = n2
  · subst hn
    go_enter Try.func18, Try.ntmps18
    go_wp2_with fail
    go_loopw [5] (fun iv wx => ∃ i : Nat, iv = .int .i64 (i : Int) ∧ i ≤ n1 ∧ Hid (Old w wx) ∧ Hid (∀ j, j < i → X j = Y j)) (fun iv _ => n1 - (intOf iv).toNat)
    case atStart => exact ⟨0, rfl, Nat.zero_le _, Old.refl _, fun j hj => by omega⟩
    case round =>
      obtain ⟨i, rfl, hi, HO, HJ⟩ := hrel
      by_cases hlt : i < n1
      · rcases HX.out.old HO.out with h0 | ⟨bx, ox, hqx, _, hrx⟩
        · omega
        rcases HY.out.old HO.out with h0 | ⟨by_, oy, hqy, _, hry⟩
        · omega
        have cx := (hrx i hlt).1
        have cy := (hry i hlt).1
        clear hrx hry
        subst hqx hqy
        by_cases he : X i = Y i
        · have HM : Hid (X i = Y i) := he
          rw [← he] at cy
          clear he
          go_upto_region 6 with fail
          go_quiet (fail)
          go_wp2_with fail
          go_roundw
          case rel => exact ⟨i + 1, idx_next i, by omega, by first | exact HO.out | exact HO.out.drew | exact HO.out.drewN _, upto_succ HJ.out HM.out⟩
          case measure => simp [intOf]; omega
        · have HN : Hid (sameB n1 X n1 Y = false) := no_of fun hc => he ((sameB_iff.1 hc).2 i hlt)
          go_upto_region 6 with fail
          go_quiet (fail)
          go_wp2_with fail
          go_ret
          exact ⟨ret_bool HN.out.symm, by first | exact HO.out | exact HO.out.drew | exact HO.out.drewN _⟩
      · have he : n1 = i := by omega
        subst he
        have HN : Hid (sameB n1 X n1 Y = true) := sameB_iff.2 ⟨rfl, HJ.out⟩
        go_wp2_with fail
        go_ret
        exact ⟨ret_bool HN.out.symm, HO.out⟩
  · have HN : Hid (sameB n1 X n2 Y = false) := no_of fun hc => hn (sameB_iff.1 hc).1
    have k1 : ¬ (n1 : Int) = (n2 : Int) := by omega
    go_enter Try.func18, Try.ntmps18
    go_wp2_with fail
    go_ret
    exact ⟨ret_bool HN.out.symm, Old.refl _⟩

set_option maxRecDepth 100000 in
set_option maxHeartbeats 4000000 in
theorem ranswer_any (P Q G H : Int) (a : Option Addr) (n cap : Nat) (b1 : Option Addr) (n1 c1 : Nat) (X : Nat → Int) (b2 : Option Addr) (n2 c2 : Nat) (Y : Nat → Int) (e : Int) (w : World) (he : U64 e) (m1 : n1 ≤ 80) (h1 : FacsIn w b1 n1 X) (h2 : FacsIn w b2 n2 Y) :
    Calls Try.prog 57 #[gv P Q G H a n cap, .slice b1 n1 c1, .slice b2 n2 c2, .int .u64 e] w (Gives w (decide (n1 = n2)) n1 (fun k => ansI Q e (X k) (Y k))) := by
  have HX : Hid (FacsIn w b1 n1 X) := h1
  have HY : Hid (FacsIn w b2 n2 Y) := h2
  have HZ := lain1 w (gc P Q G H a n cap) 25
  by_cases hn : n1 = n2
  · subst hn
    obtain ⟨M, hM⟩ : ∃ M : Nat → Int, M = fun k => mulI e (X k) Q := ⟨_, rfl⟩
    obtain ⟨F, hF⟩ : ∃ F : Nat → Int, F = fun k => ansI Q e (X k) (Y k) := ⟨_, rfl⟩
    have H1 : Hid (∀ i wx, i < n1 → Calls Try.prog 71 #[.int .u64 e, .int .u64 (X i), .int .u64 Q] wx fun r w' => r = .returned (.int .u64 (M i)) ∧ Old wx w') := fun i wx hi => (rmul_any e (X i) Q wx he.1 he.2 (h1.u64 i hi).1 (h1.u64 i hi).2).mono fun r w' ⟨h, k⟩ => ⟨by rw [h, hM], (Old.refl _).draws k⟩
    have H2 : Hid (∀ i wx, i < n1 → Calls Try.prog 19 #[.int .u64 (Y i), .int .u64 (M i), .int .u64 Q] wx fun r w' => r = .returned (.int .u64 (F i)) ∧ Old wx w') := fun i wx hi => (radd_any (Y i) (M i) Q wx (h2.u64 i hi).1 (h2.u64 i hi).2 (by rw [hM]; exact (u64_mul _ _ _).1) (by rw [hM]; exact (u64_mul _ _ _).2)).mono fun r w' ⟨h, k⟩ => ⟨by rw [h, hF, hM]; rfl, (Old.refl _).draws k⟩
    rw [← hF]
    clear hF hM he h1 h2
    obtain ⟨i0, hi, hz0, hz1, hz2⟩ := info_parts u64info
    go_enter Try.func57, Try.ntmps57
    go_upto_region 1 with fail
    generalize hW : w.alloc (.cells (gc P Q G H a n cap) 25) = W at *
    clear hW
    go_wp2_with fail
    go_loopw [10, 11] (fun v iv wx => ∃ i : Nat, iv = .int .i64 (i : Int) ∧ i ≤ n1 ∧ Hid (Nums wx W.heap.size v i F) ∧ Hid (Old W wx)) (fun _ iv _ => n1 - (intOf iv).toNat)
    case atStart => exact ⟨0, rfl, Nat.zero_le _, nums_nil _ _ _, Old.refl _⟩
    case round =>
      obtain ⟨i, rfl, hi1, HN, HW⟩ := hrel
      by_cases hlt : i < n1
      · rcases HX.out with h0 | ⟨bx, ox, hqx, _, hrx⟩
        · omega
        rcases HY.out with h0 | ⟨by_, oy, hqy, _, hry⟩
        · omega
        have HT : Hid (∀ w', Old W w' → w'.cell? ⟨w.heap.size, 1, none⟩ = some (.int .u64 Q) ∧ w'.cell? ⟨bx, ox + i, none⟩ = some (.int .u64 (X i)) ∧ w'.cell? ⟨by_, oy + i, none⟩ = some (.int .u64 (Y i))) := fun w' ho => ⟨(HZ.then ho).cell 0 1 (by simp) rfl, (HZ.old.trans ho).cellOf (hrx i hlt).1, (HZ.old.trans ho).cellOf (hry i hlt).1⟩
        clear hrx hry
        subst hqx hqy
        obtain ⟨dq, cx, cy⟩ := HT.out _ HW.out
        have HM : Hid (∀ wx, Calls Try.prog 71 #[.int .u64 e, .int .u64 (X i), .int .u64 Q] wx fun r w' => r = .returned (.int .u64 (M i)) ∧ Old wx w') := fun wx => H1.out i wx hlt
        have HA : Hid (∀ wx, Calls Try.prog 19 #[.int .u64 (Y i), .int .u64 (M i), .int .u64 Q] wx fun r w' => r = .returned (.int .u64 (F i)) ∧ Old wx w') := fun wx => H2.out i wx hlt
        go_upto_region 7 with fail
        go_region_held3 (fun w' => w'.cell? ⟨w.heap.size, 1, none⟩ = some (.int .u64 Q) ∧ w'.cell? ⟨bx, ox + i, none⟩ = some (.int .u64 (X i)) ∧ w'.cell? ⟨by_, oy + i, none⟩ = some (.int .u64 (Y i))) (first | exact HT.out _ h6 | exact HT.out _ h5 | exact HT.out _ (h5.alloc _) | exact HT.out _ h4 | exact HT.out _ HW.out.drew) (first
          | (go_at_call 71; refine (HM.out _).mono ?_; rintro e w4 ⟨rfl, o4⟩; have h4 : Old W w4 := HW.out.drew.trans o4)
          | (go_at_call 19; refine (HA.out _).mono ?_; rintro e w5 ⟨rfl, o5⟩; have h5 : Old W w5 := h4.trans o5; have hown := HN.out.old (((Old.refl wr).drew.trans o4).trans o5); have hs5 := h5.size)
          | (refine step_append_lies _ rfl (.tmp 23) (.tmp 39) 27 rfl W.heap.size 22 i0 (.int .u64 0) 1 8 Try.underlying27 hi hz0 hz1 hz2 rfl (by decide) _ _ _ rfl (World.ownsRow.alloc hown _) ⟨w5.heap.size, 0, none⟩ 1 1 [.int .u64 (F i)] rfl rfl (cell_one_new _ _ _) (by intro u hu; simp at hu; subst hu; rfl) (by decide) (by unfold maxLen; omega) (by omega) (by simp; omega) _ rfl ?_; intro g6 cap6 w6 hown6 hgrow6 _ _; have h6 : Old W w6 := Nums.grown hown h5 hgrow6))
        go_wp2_with fail
        go_roundw
        case rel => exact ⟨i + 1, idx_next i, by omega, Nums.app hown6 rfl, h6⟩
        case measure => simp [intOf]; omega
      · have he : n1 = i := by omega
        subst he
        go_wp2_with fail
        go_ret2
        exact gives_yes (by simp) (HN.out.mono HZ.old.size) (HZ.old.trans HW.out)
  · have k1 : ¬ (n1 : Int) = (n2 : Int) := by omega
    clear he h1 h2
    go_enter Try.func57, Try.ntmps57
    go_wp2_with fail
    go_ret2
    exact gives_no (by simp [hn]) ((Old.refl _).alloc _)

end Go.Proofs.Ytokhpppealdfmaf
