/-
  What the statement GamalTimes opens by, and the product of two pairs (layer 5).
-/
import Derived.Test.YthheogiiggiciaeVapp
import Derived.Test.YthheogiiggiciaeVlaw1
namespace Go.Proofs.Ythheogiiggiciae
open Go.RowKit

/-- Opened by one secret. -/
def opI (P Q x u v : Int) : Int := overI P v (prodI P (fun _ => expI P Q u x) 1)
theorem u64_op (P Q x u v : Int) : U64 (opI P Q x u v) := u64_over _ _ _
theorem Righ.times {P Q G x a b c d : Int} (h : Righ P Q G) (ha : inI P Q a = true) (hb : inI P Q b = true) (hx : 0 ≤ x) : opI P Q x (mulI a b P) (mulI c d P) = mulI (opI P Q x a c) (opI P Q x b d) P := by
  unfold opI
  have iab := h.mul_in ha hb
  have ka := h.keys_cong ha (fun _ => x) 1 fun _ _ => hx
  have kb := h.keys_cong hb (fun _ => x) 1 fun _ _ => hx
  have kc := h.keys_cong iab (fun _ => x) 1 fun _ _ => hx
  have pa := h.prod_in (F := fun _ => expI P Q a x) 1 fun i _ => h.exp_in ha
  have pb := h.prod_in (F := fun _ => expI P Q b x) 1 fun i _ => h.exp_in hb
  have pc := h.prod_in (F := fun _ => expI P Q (mulI a b P) x) 1 fun i _ => h.exp_in iab
  have oa := h.over_cong pa c
  have ob := h.over_cong pb d
  generalize prodI P (fun _ => expI P Q a x) 1 = A at *
  generalize prodI P (fun _ => expI P Q b x) 1 = B at *
  generalize prodI P (fun _ => expI P Q (mulI a b P) x) 1 = E at *
  generalize sm (fun _ => x) 1 = S at *
  refine h.over_is pc (mulI_lt h.ok).1 (mulI_lt h.ok).2 ?_
  have e1 : E % P = A * B % P := by
    rw [kc, cong_pow (mul_cong h.ok rfl rfl) S, Int.mul_pow]
    exact (cong_mul ka kb).symm
  have e2 := cong_mul (a := mulI (overI P c A) (overI P d B) P) (mul_cong h.ok rfl rfl) e1
  rw [e2, mul_cong h.ok rfl rfl, show overI P c A * overI P d B * (A * B) = overI P c A * A * (overI P d B * B) by simp only [Int.mul_assoc, Int.mul_comm, Int.mul_left_comm]]
  exact cong_mul oa ob

set_option maxHeartbeats 4000000 in
theorem open5_any (P Q G H : Int) (a : Option Addr) (n cap : Nat) (u v x : Int) (bg bx : Nat) (w : World) (h4 : Four P Q G H) (hr : Righ P Q G) (hx : U64 x) (hu : U64 u) (hv : U64 v) (iu : inI P Q u = true)
    (g0 : w.cell? ⟨bg, 0, none⟩ = some (.int .u64 P)) (g1 : w.cell? ⟨bg, 1, none⟩ = some (.int .u64 Q)) (g2 : w.cell? ⟨bg, 2, none⟩ = some (.int .u64 G)) (g3 : w.cell? ⟨bg, 3, none⟩ = some (.int .u64 H)) (g4 : w.cell? ⟨bg, 4, none⟩ = some (.slice a n cap)) (gx : w.cell? ⟨bx, 0, none⟩ = some (.int .u64 x)) :
    Calls Try.prog 7 #[pv u v, .pointer (some ⟨bg, 0, none⟩), .pointer (some ⟨bx, 0, none⟩)] w fun e w' => e = .returned (.int .u64 (opI P Q x u v)) ∧ Old w w' := by
  have HH : Hid (∀ wx, Calls Try.prog 9 #[gv P Q G H a n cap, .int .u64 x, pv u v] wx fun e w' => e = .returned (.int .u64 (expI P Q u x)) ∧ Old wx w') := fun wx => gshare_any P Q G H a n cap x u v wx h4 hr hx hu
  have HP : Hid (∀ wx t, Calls Try.prog 8 #[gv P Q G H a n cap, pv u v, .slice (some ⟨wx.heap.size, 0, none⟩) 1 1] (wx.alloc (.cells #[.int .u64 (expI P Q u x)] t)) fun e w' => e = .returned (.int .u64 (opI P Q x u v)) ∧ Old wx w') :=
    fun wx t => (gopen_any P Q G H a n cap u v _ 1 1 _ _ h4 hr hv (by decide) (by decide) (facs_one wx _ t (u64_exp _ _ _ _)) (fun i _ => hr.exp_in iu)).mono fun e w' ⟨h, k⟩ => ⟨by rw [h]; rfl, ((Old.refl _).alloc _).trans k⟩
  have HZ : Hid (Old w (w.alloc (.cells (pc u v) 27))) := (Old.refl _).alloc _
  have z0 : (w.alloc (.cells (pc u v) 27)).cell? ⟨w.heap.size, 0, none⟩ = some (.int .u64 u) := (World.cell?_alloc_mark w _ _ (0, 0) 0).trans rfl
  have z1 : (w.alloc (.cells (pc u v) 27)).cell? ⟨w.heap.size, 1, none⟩ = some (.int .u64 v) := (World.cell?_alloc_mark w _ _ (0, 0) 1).trans rfl
  have HT : Hid (∀ w', Old (w.alloc (.cells (pc u v) 27)) w' → w'.cell? ⟨bg, 0, none⟩ = some (.int .u64 P) ∧ w'.cell? ⟨bg, 1, none⟩ = some (.int .u64 Q) ∧ w'.cell? ⟨bg, 2, none⟩ = some (.int .u64 G) ∧ w'.cell? ⟨bg, 3, none⟩ = some (.int .u64 H) ∧ w'.cell? ⟨bg, 4, none⟩ = some (.slice a n cap) ∧ w'.cell? ⟨bx, 0, none⟩ = some (.int .u64 x) ∧ w'.cell? ⟨w.heap.size, 0, none⟩ = some (.int .u64 u) ∧ w'.cell? ⟨w.heap.size, 1, none⟩ = some (.int .u64 v)) := fun w' ho =>
    ⟨(HZ.out.trans ho).cellOf g0, (HZ.out.trans ho).cellOf g1, (HZ.out.trans ho).cellOf g2, (HZ.out.trans ho).cellOf g3, (HZ.out.trans ho).cellOf g4, (HZ.out.trans ho).cellOf gx, ho.cellOf z0, ho.cellOf z1⟩
  generalize expI P Q u x = sh at *
  generalize opI P Q x u v = z at *
  clear h4 hr hx hu hv iu g0 g1 g2 g3 g4 gx z0 z1
  go_enter Try.func7, Try.ntmps7
  go_upto_region 1 with fail
  generalize hW : w.alloc (.cells (pc u v) 27) = W at *
  clear hW
  obtain ⟨d0, d1, d2, d3, d4, dx, cc0, cc1⟩ := HT.out _ (Old.refl _)
  go_region_held3 (fun w' => w'.cell? ⟨bg, 0, none⟩ = some (.int .u64 P) ∧ w'.cell? ⟨bg, 1, none⟩ = some (.int .u64 Q) ∧ w'.cell? ⟨bg, 2, none⟩ = some (.int .u64 G) ∧ w'.cell? ⟨bg, 3, none⟩ = some (.int .u64 H) ∧ w'.cell? ⟨bg, 4, none⟩ = some (.slice a n cap) ∧ w'.cell? ⟨bx, 0, none⟩ = some (.int .u64 x) ∧ w'.cell? ⟨w.heap.size, 0, none⟩ = some (.int .u64 u) ∧ w'.cell? ⟨w.heap.size, 1, none⟩ = some (.int .u64 v)) (first | exact HT.out _ (by assumption) | (go_keep; done)) (first
    | (go_at_call 9; refine (HH.out _).mono ?_; rintro e w4 ⟨rfl, ho4⟩; have hq : Old W w4 := (Old.refl _).drew.trans ho4)
    | (go_at_call 8; refine (HP.out _ _).mono ?_; rintro e w5 ⟨rfl, ho5⟩; have hq5 : Old W w5 := hq.trans ho5))
  go_wp2_with fail
  go_ret
  exact ⟨rfl, HZ.out.trans hq5⟩

end Go.Proofs.Ythheogiiggiciae
