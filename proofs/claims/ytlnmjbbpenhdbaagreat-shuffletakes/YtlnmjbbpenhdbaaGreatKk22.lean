/-
  What the proof needs, part 22.
-/
import Derived.Test.YtlnmjbbpenhdbaaGreatKk21
namespace Go.Proofs.YtlnmjbbpenhdbaaGreat
open Tryz
set_option linter.unusedSimpArgs false
set_option linter.unusedVariables false
set_option maxRecDepth 100000
set_option maxHeartbeats 32000000
section
open Go Go.RowKit
def GivR (w : World) (ok : Bool) (m : Nat) (C : NN) (r : Ending) (w' : World) : Prop := Old w w' /\ ∃ a c, r = .returned (.tuple #[.slice a (if ok then m else 0) c, .bool ok]) /\ BoxF w' a (if ok then m else 0) C
theorem zd0 {w w' : World} {ok : Bool} {m : Nat} {C : NN} (hok : ok = false) (ho : Old w w') : GivR w ok m C (.returned (.tuple #[.slice none 0 0, .bool false])) w' := by
 subst hok
 exact ⟨ho, none, 0, rfl, Or.inl rfl⟩
theorem mixB_ref {P Q y : Int} {m : Nat} {C : NN} {no : Nat} {O : NI} {nρ : Nat} : mixB P Q y m C no O nρ = true ↔ batB P Q m C = true /\ inI P Q y = true /\ ordR no O = true /\ no = m /\ nρ = m := by
 unfold mixB ordR
 simp only [Bool.and_eq_true_iff, decide_eq_true_eq]
 constructor
 ·rintro ⟨h1, h2, h3, h4, h5⟩
  have := (zaN.1 h4).1
  exact ⟨h4, h5, ⟨by omega, h3⟩, h1, h2⟩
 ·rintro ⟨h4, h5, ⟨_, h3⟩, h1, h2⟩
  exact ⟨h1, h2, h3, h4, h5⟩
theorem info_pair8r : (prog.info? 69).map (·.size) = some 2 := by kernel_rfl
theorem pair_load8 (w : World) (b off : Nat) (u v : Int) (h0 : w.cell? ⟨b, off, none⟩ = some (.int .u64 u)) (h1 : w.cell? ⟨b, off + 1, none⟩ = some (.int .u64 v)) : (loadVar 69 ⟨b, off, none⟩).run prog w = .ok (pv u v) w :=
 zcF w b off _ #[.int .u64 u, .int .u64 v] _ (fun j v hv => by
  match j, (show j < 2 from (Array.getElem?_eq_some_iff.1 hv).1) with
  | 0, _ => exact h0.trans hv
  | 1, _ => exact h1.trans hv) underlying69 rfl info_pair8r
theorem boxinfo9 : (prog.info? 74).map (fun i => (i.zero, i.size, i.bytes)) = some (some (.agg #[.int .u64 0, .int .u64 0, .int .u64 0, .int .u64 0, .int .u64 0, .int .u64 0]), 6, 48) := by kernel_rfl
def mxV (k : Nat) (M C : NI) : Nat -> Value := fun q => .int .u64 (if q < k then M q else C q)
theorem mxV_row (w : World) (M C : NI) : FulV (w.alloc (.cells (bx6a C) 74)) w.heap.size 6 74 (mxV 0 M C) := by
 unfold FulV
 rw [heap_alloc_last]
 rfl
theorem mxV_next {w : World} {b k : Nat} {M C : NI} {x z : Int} (h : FulV w b 6 74 (mxV k M C)) (hx : M k = x) (hz : M (k + 1) = z) : FulV ((w.setCell ⟨b, k, none⟩ (.int .u64 x)).setCell ⟨b, k + 1, none⟩ (.int .u64 z)) b 6 74 (mxV (k + 2) M C) :=
 ((h.set k (.int .u64 x)).set (k + 1) (.int .u64 z)).congr fun q hq => by
  unfold mxV
  by_cases h1 : q = k + 1
  ·rw [if_pos h1, if_pos (by omega), h1, hz]
  ·rw [if_neg h1]
   by_cases h2 : q = k
   ·rw [if_pos h2, if_pos (by omega), h2, hx]
   ·rw [if_neg h2]
    by_cases h3 : q < k
    ·rw [if_pos h3, if_pos (by omega)]
    ·rw [if_neg h3, if_neg (by omega)]
theorem saj0 {P : Program} {ops : List Oper} {L0 : List Value} {E : List Ent} {R : World -> Prop} {dst : Option Tmp} {ty : TypeId} {pos : String} {after : Array Edge} {guard : Option (Nat × Bool)} {T e : TypeId} {x ix : Operand} {b n k : Nat} (sz : Nat) (hi : k < n) (hu : P.underlying T = some (.array n e)) (hs : (P.info? e).map (·.size) = some sz := by kernel_rfl) (hg : zap E ⟨dst, .indexAddr T x ix, ty, pos, after, guard⟩ = some true := by rfl) (hx : ∀ t, Act.eval ⟨(fill ops E t 0 L0).toArray, []⟩ x = .pointer (some ⟨b, 0, none⟩) := by intro _; kernel_rfl) (hix : ∀ t, Act.eval ⟨(fill ops E t 0 L0).toArray, []⟩ ix = .int .i64 (k : Int) := by intro _; kernel_rfl) : StepT P ops L0 E R ⟨dst, .indexAddr T x ix, ty, pos, after, guard⟩ (.k (.pointer (some ⟨b, k * sz, none⟩))) := by
 have h := saj (P := P) (ops := ops) (L0 := L0) (E := E) (R := R) (off := 0) (i := k) sz hi hu hs hg hx hix
 rwa [Nat.zero_add] at h
theorem rmix8_any (P Q G H : Int) (a : OA) (n cap : Nat) (y : Int) (bi : OA) (m ci : Nat) (C : NN) (bo : OA) (no co : Nat) (O : NI) (bρ : OA) (nρ cρ : Nat) (R : NN) (w : World) (h4 : Four P Q G H) (hr : Righ P Q G) (hy : U64 y) (mm : m <= 80) (mo : no <= 80) (mρ : nρ <= 80) (hC : BoxsIn w bi m C) (hO : IntsIn w bo no O) (hR : RhoIn w bρ nρ R) :
  Calls prog 16 #[gv P Q G H a n cap, .int .u64 y, .slice bi m ci, .slice bo no co, .slice bρ nρ cρ] w (GivR w (mixB P Q y m C no O nρ) m (mixC P Q G y C O R)) := by
 have HBa : Hid (∀ wx, Old w wx -> Calls prog 54 #[gv P Q G H a n cap, .slice bi m ci] wx (Ret wx (.bool (batB P Q m C)))) := fun wx ho => zbm P Q G H a n cap bi m ci C wx h4 (by omega) (hC.old ho)
 have HIn : Hid (∀ wx, Calls prog 55 #[gv P Q G H a n cap, .int .u64 y] wx (Ret wx (.bool (inI P Q y)))) := fun wx => zcb P Q G H y a n cap wx h4.q0 h4.q1 hy.2
 have HOr : Hid (∀ wx, Old w wx -> Calls prog 56 #[.slice bo no co] wx (Ret wx (.bool (ordR no O)))) := fun wx ho => rorder8_any bo no co O wx (by omega) (hO.old ho)
 have HZ := lain1 w (gc P Q G H a n cap) 25
 have HG0 := fun w' ho => (HZ.then (W' := w') ho).row 0 (by simp)
 have HW0 : Hid (Old w (w.alloc (.cells (gc P Q G H a n cap) 25))) := HZ.old
 clear HZ
 by_cases hok : mixB P Q y m C no O nρ = true
 rotate_left
 ·have HN : Hid (mixB P Q y m C no O nρ = false) := by unfold Hid; simpa using hok
  have hno : ¬ (batB P Q m C = true /\ inI P Q y = true /\ ordR no O = true /\ no = m /\ nρ = m) := fun h => hok (mixB_ref.2 h)
  clear hok h4 hr hC hO hR
  generalize mixB P Q y m C no O nρ = mb at *
  generalize mixC P Q G y C O R = M at *
  go_enter func16, ntmps16
  go_upto_region 1 with fail
  generalize w.alloc (.cells (gc P Q G H a n cap) 25) = W at *
  obtain ⟨gb, hgb⟩ : ∃ gb, gb = w.heap.size := ⟨_, rfl⟩
  have HG : Hid (∀ wx, Old W wx -> wx.heap[gb]? = some (.cells (gc P Q G H a n cap) 25 (0, 0))) := by rw [hgb]; exact HG0
  rw [<- hgb]
  clear hgb HG0
  have HGc : Hid (∀ wx, Old W wx -> G5 wx (gb) P Q G H (.slice a n cap)) := fun wx ho => g5 (HG.out _ ho)
  obtain ⟨d0, d1, d2, d3, d4⟩ := HGc.out _ (Old.refl _)
  cases hb : batB P Q m C with
  | false =>
   rw [hb] at HBa
   clear hb hno
   go_wp2_with (go_at_call 54; refine (HBa.out _ HW0.out).mono ?_; rintro e w1 ⟨rfl, o1⟩)
   go_ret2
   exact zd0 HN.out (HW0.out.trans o1)
  | true =>
   rw [hb] at HBa hno
   cases hi : inI P Q y with
   | false =>
    rw [hi] at HIn
    clear hb hno hi
    go_wp2_with (first
     | (go_at_call 54; refine (HBa.out _ HW0.out).mono ?_; rintro e w1 ⟨rfl, o1⟩; obtain ⟨d0, d1, d2, d3, d4⟩ := HGc.out _ o1)
     | (go_at_call 55; refine (HIn.out _).mono ?_; rintro e w2 ⟨rfl, o2⟩))
    go_ret2
    exact zd0 HN.out ((HW0.out.trans o1).trans o2)
   | true =>
    rw [hi] at HIn hno
    cases ho : ordR no O with
    | false =>
     rw [ho] at HOr
     clear hb hno hi ho
     go_wp2_with (first
      | (go_at_call 54; refine (HBa.out _ HW0.out).mono ?_; rintro e w1 ⟨rfl, o1⟩; obtain ⟨d0, d1, d2, d3, d4⟩ := HGc.out _ o1)
      | (go_at_call 55; refine (HIn.out _).mono ?_; rintro e w2 ⟨rfl, o2⟩)
      | (go_at_call 56; refine (HOr.out _ ((HW0.out.trans o1).trans o2)).mono ?_; rintro e w3 ⟨rfl, o3⟩))
     go_ret2
     exact zd0 HN.out (((HW0.out.trans o1).trans o2).trans o3)
    | true =>
     rw [ho] at HOr hno
     by_cases h1 : no = m
     ·have h2 : ¬ nρ = m := fun h => hno ⟨rfl, rfl, rfl, h1, h⟩
      have k0 : ((no : Int) != (m : Int)) = false := by simp; omega
      have k1 : ((nρ : Int) != (m : Int)) = true := by simp; omega
      have k2 : ¬ (nρ : Int) = (m : Int) := by omega
      have k3 : (no : Int) = (m : Int) := by omega
      clear hb hno hi ho h1 h2
      go_wp2_with (first
       | (go_at_call 54; refine (HBa.out _ HW0.out).mono ?_; rintro e w1 ⟨rfl, o1⟩; obtain ⟨d0, d1, d2, d3, d4⟩ := HGc.out _ o1)
       | (go_at_call 55; refine (HIn.out _).mono ?_; rintro e w2 ⟨rfl, o2⟩)
       | (go_at_call 56; refine (HOr.out _ ((HW0.out.trans o1).trans o2)).mono ?_; rintro e w3 ⟨rfl, o3⟩))
      go_ret2
      exact zd0 HN.out (((HW0.out.trans o1).trans o2).trans o3)
     ·have k1 : ((no : Int) != (m : Int)) = true := by simp; omega
      have k2 : ¬ (no : Int) = (m : Int) := by omega
      clear hb hno hi ho h1
      go_wp2_with (first
       | (go_at_call 54; refine (HBa.out _ HW0.out).mono ?_; rintro e w1 ⟨rfl, o1⟩; obtain ⟨d0, d1, d2, d3, d4⟩ := HGc.out _ o1)
       | (go_at_call 55; refine (HIn.out _).mono ?_; rintro e w2 ⟨rfl, o2⟩)
       | (go_at_call 56; refine (HOr.out _ ((HW0.out.trans o1).trans o2)).mono ?_; rintro e w3 ⟨rfl, o3⟩))
      go_ret2
      exact zd0 HN.out (((HW0.out.trans o1).trans o2).trans o3)
 obtain ⟨hba, hin, hord, e1, e2⟩ := mixB_ref.1 hok
 rw [hba] at HBa
 rw [hin] at HIn
 rw [hord] at HOr
 rw [hok]
 have e1' : m = no := e1.symm
 subst e1'
 have e2' : m = nρ := e2.symm
 subst e2'
 clear e1 e2 hok
 have HX : Hid (IntsIn w bo m O) := hO
 have HCx : Hid (BoxsIn w bi m C) := hC
 have HRx : Hid (RhoIn w bρ m R) := hR
 have HPo : Hid (OrdP m O) := zaM.1 (by have := hord; unfold ordR at this; exact (Bool.and_eq_true_iff.1 this).2)
 have h8 : m <= 8 := (zaN.1 hba).1.2
 have H4 : Hid (Four P Q G H) := h4
 have HRi : Hid (Righ P Q G) := hr
 obtain ⟨D, hD⟩ : ∃ D : Nat -> Nat -> Int, D = mixC P Q G y C O R := ⟨_, rfl⟩
 have HDe : Hid (D = mixC P Q G y C O R) := hD
 rw [<- hD]
 clear hD hC hO hR h4 hr hba hin hord
 obtain ⟨i0, hi0, hz⟩ := Option.map_eq_some_iff.1 boxinfo9
 simp only [Prod.mk.injEq] at hz
 obtain ⟨hz0, hz1, hz2⟩ := hz
 have HI0 : Hid (prog.info? 74 = some i0 /\ i0.zero = some (.agg #[.int .u64 0, .int .u64 0, .int .u64 0, .int .u64 0, .int .u64 0, .int .u64 0]) /\ i0.size = 6 /\ i0.bytes = 48) := ⟨hi0, hz0, hz1, hz2⟩
 clear hi0 hz0 hz1 hz2
 go_enter func16, ntmps16
 go_upto_region 1 with fail
 generalize w.alloc (.cells (gc P Q G H a n cap) 25) = W at *
 obtain ⟨gb, hgb⟩ : ∃ gb, gb = w.heap.size := ⟨_, rfl⟩
 have HG : Hid (∀ wx, Old W wx -> wx.heap[gb]? = some (.cells (gc P Q G H a n cap) 25 (0, 0))) := by rw [hgb]; exact HG0
 rw [<- hgb]
 clear hgb HG0
 have HGc : Hid (∀ wx, Old W wx -> G5 wx (gb) P Q G H (.slice a n cap)) := fun wx ho => g5 (HG.out _ ho)
 obtain ⟨d0, d1, d2, d3, d4⟩ := HGc.out _ (Old.refl _)
 go_upto_region 5 with (first
  | (go_at_call 54; refine (HBa.out _ HW0.out).mono ?_; rintro e w1 ⟨rfl, o1⟩; obtain ⟨d0, d1, d2, d3, d4⟩ := HGc.out _ o1)
  | (go_at_call 55; refine (HIn.out _).mono ?_; rintro e w2 ⟨rfl, o2⟩)
  | (go_at_call 56; refine (HOr.out _ ((HW0.out.trans o1).trans o2)).mono ?_; rintro e w3 ⟨rfl, o3⟩))
 have HO3 : Hid (Old W w3) := (o1.trans o2).trans o3
 clear o1 o2 o3 d0 d1 d2 d3 d4 HBa HIn HOr HGc
 go_loopw [12, 13] (fun v iv wx => ∃ i : Nat, iv = .int .i64 (i : Int) /\ i <= m /\ Hid (RowsN wx W.heap.size 74 6 v i (bxL D)) /\ Hid (Old W wx)) (fun _ iv _ => m - (intOf iv).toNat)
 case atStart => exact ⟨0, rfl, Nat.zero_le _, rowsN_nil _ _ _ _ _, HO3⟩
 case round =>
  obtain ⟨i, rfl, hi, HN, HO⟩ := hrel
  by_cases hlt : i < m
  ·rcases HX.out with h0 | ⟨bx, ox, hqx, _, hrx⟩
   ·omega
   have cx := (HW0.out.trans HO.out).cellOf (hrx i hlt).1
   have hp := HPo.out.2.1 i hlt
   obtain ⟨p, hpe⟩ : ∃ p : Nat, O i = (p : Int) := ⟨(O i).toNat, by omega⟩
   have HPe : Hid ((O i).toNat = p) := by unfold Hid; omega
   rw [hpe] at cx hp
   have hpn : p < m := by omega
   clear hpe hp hrx
   subst hqx
   rcases HCx.out with h0 | ⟨bc, oc, hqc, _, hrc⟩
   ·omega
   have hcc : ∀ k, k < 6 -> wr.cell? ⟨bc, oc + p * 6 + k, none⟩ = some (.int .u64 (C p k)) /\ U64 (C p k) := fun k hk => ⟨(HW0.out.trans HO.out).cellOf (hrc p hpn k hk).1, (hrc p hpn k hk).2⟩
   have c0 : wr.cell? ⟨bc, oc + p * 6, none⟩ = some (.int .u64 (C p 0)) := (hcc 0 (by omega)).1
   have c1 := (hcc 1 (by omega)).1
   have c2 := (hcc 2 (by omega)).1
   have c3 := (hcc 3 (by omega)).1
   have c4 := (hcc 4 (by omega)).1
   have c5 := (hcc 5 (by omega)).1
   have HCu : Hid (∀ k, k < 6 -> U64 (C p k)) := fun k hk => (hcc k hk).2
   clear hrc hcc
   subst hqc
   have HB0 : Hid (FulV (wr.alloc (.cells (bx6a (C p)) 74)) wr.heap.size 6 74 (mxV 0 (D i) (C p))) := mxV_row _ _ _
   have HO1 : Hid (Old wr (wr.alloc (.cells (bx6a (C p)) 74))) := (Old.refl _).alloc _
   have HSz : Hid (W.heap.size <= wr.heap.size) := HO.out.size
   go_upto_region 9 with fail
   clear c0 c1 c2 c3 c4 c5 cx
   obtain ⟨nb, hnb⟩ : ∃ nb, nb = wr.heap.size := ⟨_, rfl⟩
   rw [<- hnb] at HB0
   rw [<- hnb]
   have Hnb : Hid (wr.heap.size <= nb) := by unfold Hid; omega
   clear hnb
   obtain ⟨w5, hw5⟩ : ∃ w5, w5 = wr.alloc (.cells (bx6a (C p)) 74) := ⟨_, rfl⟩
   rw [<- hw5] at HB0 HO1
   try rw [<- hw5]
   clear hw5
   go_loopw [15] (fun kv wx => ∃ k : Nat, kv = .int .i64 (k : Int) /\ k <= 3 /\ Hid (FulV wx nb 6 74 (mxV (k * 2) (D i) (C p))) /\ Hid (Old wr wx)) (fun kv _ => 3 - (intOf kv).toNat)
   case atStart => exact ⟨0, rfl, Nat.zero_le _, by rw [Nat.zero_mul]; exact HB0, HO1⟩
   case round =>
    obtain ⟨k, rfl, hk, HB, HO2⟩ := hrel
    by_cases hkl : k < 3
    ·have k3 : (k : Int) < 3 := by omega
     rcases HRx.out with h0 | ⟨by_, oy, hqy, _, hry⟩
     ·omega
     have HRu : Hid (U64 (R i k)) := (hry i hlt k hkl).2
     have HRc : Hid (∀ wx, Old wr wx -> wx.cell? ⟨by_, oy + i * 3 + k, none⟩ = some (.int .u64 (R i k))) := fun wx hx => (((HW0.out.trans HO.out).trans HO2.out).trans hx).cellOf (hry i hlt k hkl).1
     clear hry
     subst hqy
     have HPl : Hid (∀ wx, Old wr wx -> (loadVar 69 ⟨nb, k * 2, none⟩).run prog wx = .ok (pv (C p (2 * k)) (C p (2 * k + 1))) wx) := fun wx ho => by
      have hb := HB.out.old ho
      refine pair_load8 wx nb _ _ _ ?_ ?_
      ·rw [hb.cell (k * 2) (by omega)]; unfold mxV; rw [if_neg (by omega), show k * 2 = 2 * k by omega]
      ·rw [hb.cell (k * 2 + 1) (by omega)]; unfold mxV; rw [if_neg (by omega), show k * 2 + 1 = 2 * k + 1 by omega]
     have HDu : Hid (D i (2 * k) = mulI (C p (2 * k)) (expI P Q G (R i k)) P) := by
      unfold Hid; rw [HDe.out]; unfold mixC; rw [if_pos (by omega), HPe.out, show 2 * k / 2 = k by omega]
     have HDv : Hid (D i (2 * k + 1) = mulI (C p (2 * k + 1)) (expI P Q y (R i k)) P) := by
      unfold Hid; rw [HDe.out]; unfold mixC; rw [if_neg (by omega), HPe.out, show (2 * k + 1) / 2 = k by omega]
     have HCv : Hid (U64 (C p (2 * k)) /\ U64 (C p (2 * k + 1))) := ⟨HCu.out _ (by omega), HCu.out _ (by omega)⟩
     have HAg : Hid (∀ wx, Calls prog 57 #[gv P Q G H a n cap, .int .u64 y, pv (C p (2 * k)) (C p (2 * k + 1)), .int .u64 (R i k)] wx (Ret wx (pv (D i (2 * k)) (D i (2 * k + 1))))) := fun wx => by rw [HDu.out, HDv.out]; exact ragain_any P Q G H a n cap y _ _ _ wx H4.out HRi.out hy HCv.out.1 HCv.out.2 HRu.out
     have HGr : Hid (∀ wx, Old wr wx -> wx.heap[gb]? = some (.cells (gc P Q G H a n cap) 25 (0, 0))) := fun wx ho => HG.out wx ((HO.out.trans HO2.out).trans ho)
     go_upto_region 11 with fail
     refine zaa 14 [.k (.int .i64 (k : Int)), .k (gv P Q G H a n cap), .k (.int .u64 y), .k (.int .i64 (k : Int)), .k (.pointer (some ⟨nb, k * 2, none⟩)), .k (pv (C p (2 * k)) (C p (2 * k + 1))), .k (.slice (some ⟨by_, oy, none⟩) m cρ), .k (.int .i64 (i : Int)), .k (.int .i64 (k : Int)), .k (.pointer (some ⟨by_, oy + i * 3, none⟩)), .k (.pointer (some ⟨by_, oy + i * 3 + k, none⟩)), .k (.int .u64 (R i k)), .k (pv (D i (2 * k)) (D i (2 * k + 1))), .k (.pointer (some ⟨nb, k * 2, none⟩))] (Old wr) (by kernel_rfl) (by kernel_rfl) rfl ((Old.refl _).drew) ?st ?_
     case st =>
      refine .c stp <| .c (sts underlying25 HGr.out) <| .c stp <| .c stp <| .c (saj0 2 hkl underlying74) <| .c (stlv HPl.out) <| .c stp <| .c stp <| .c stp <| .c (stj (n := m) (c := cρ) 3 hlt underlying28) <| .c (sai hkl underlying63) <| .c (stl underlying22 HRc.out) <| .c (stK old_R func57 (fun wy _ => HAg.out wy)) <| .c (saj0 2 hkl underlying74) .n
     intro t wz hR2 hk2
     simp only [fill, Ent.val, List.set_cons_zero, List.set_cons_succ, List.drop_succ_cons, List.drop_zero, List.drop_nil]
     have HBz := HB.out.old hR2
     have HB3 : Hid (FulV ((wz.setCell ⟨nb, k * 2, none⟩ (.int .u64 (D i (2 * k)))).setCell ⟨nb, k * 2 + 1, none⟩ (.int .u64 (D i (2 * k + 1)))) nb 6 74 (mxV ((k + 1) * 2) (D i) (C p))) := by
      have h := mxV_next HBz (x := D i (2 * k)) (z := D i (2 * k + 1)) (by rw [show k * 2 = 2 * k by omega]) (by rw [show k * 2 + 1 = 2 * k + 1 by omega])
      rwa [show k * 2 + 2 = (k + 1) * 2 by omega] at h
     have HO3' : Hid (Old _ ((wz.setCell ⟨nb, k * 2, none⟩ (.int .u64 (D i (2 * k)))).setCell ⟨nb, k * 2 + 1, none⟩ (.int .u64 (D i (2 * k + 1))))) := ((HO2.out.trans hR2).setCell (p := ⟨nb, k * 2, none⟩) Hnb.out _).setCell (p := ⟨nb, k * 2 + 1, none⟩) Hnb.out _
     have q0 := HBz.cell (k * 2) (by omega)
     have q1 := HBz.cell (k * 2 + 1) (by omega)
     have f0 := HBz.free (k * 2)
     have f1 := HBz.free (k * 2 + 1)
     unfold mxV at q0 q1
     clear hR2 hk2 HBz HRc HPl HAg HGr
     generalize D i (2 * k) = du at *
     generalize D i (2 * k + 1) = dv8 at *
     go_wp2_with fail
     go_roundw
     case rel => exact ⟨k + 1, zac k, by omega, HB3, HO3'⟩
     case measure => simp [intOf]; omega
    ·have hk3 : k = 3 := by omega
     subst hk3
     have HB6 : Hid (wr.heap[nb]? = some (.cells (bx6a (D i)) 74 (0, 0))) := HB.out
     have m0 : wr.cell? ⟨nb, 0, none⟩ = some (.int .u64 (D i 0)) := cell_of_row _ _ 0 _ _ (0, 0) HB6.out
     have m1 : wr.cell? ⟨nb, 1, none⟩ = some (.int .u64 (D i 1)) := cell_of_row _ _ 1 _ _ (0, 0) HB6.out
     have m2 : wr.cell? ⟨nb, 2, none⟩ = some (.int .u64 (D i 2)) := cell_of_row _ _ 2 _ _ (0, 0) HB6.out
     have m3 : wr.cell? ⟨nb, 3, none⟩ = some (.int .u64 (D i 3)) := cell_of_row _ _ 3 _ _ (0, 0) HB6.out
     have m4 : wr.cell? ⟨nb, 4, none⟩ = some (.int .u64 (D i 4)) := cell_of_row _ _ 4 _ _ (0, 0) HB6.out
     have m5 : wr.cell? ⟨nb, 5, none⟩ = some (.int .u64 (D i 5)) := cell_of_row _ _ 5 _ _ (0, 0) HB6.out
     have hwv : W.heap.size <= wr.heap.size := (HO.out.trans HO2.out).size
     have HNv := HN.out.old HO2.out
     have HOv : Hid (Old W wr) := HO.out.trans HO2.out
     have HNews : Hid ([Value.int .u64 (D i 0), .int .u64 (D i 1), .int .u64 (D i 2), .int .u64 (D i 3), .int .u64 (D i 4), .int .u64 (D i 5)] = (List.range 6).map fun q => bxL D (i * 6 + q)) := box_news D i
     obtain ⟨hi0, hz0, hz1, hz2⟩ := HI0.out
     clear HB HO2 HB0 HO1 HB6
     generalize D i 0 = x0 at *
     generalize D i 1 = x1 at *
     generalize D i 2 = x2 at *
     generalize D i 3 = x3 at *
     generalize D i 4 = x4 at *
     generalize D i 5 = x5 at *
     go_wp2_with (at_builtin; refine wpList_append_lies _ rfl _ _ 26 rfl W.heap.size 74 i0 (.agg #[.int .u64 0, .int .u64 0, .int .u64 0, .int .u64 0, .int .u64 0, .int .u64 0]) 6 48 underlying26 hi0 hz0 hz1 hz2 rfl (by decide) _ _ _ rfl (World.ownsRow.alloc HNv _) ⟨wr.heap.size, 0, none⟩ 1 1 [.int .u64 x0, .int .u64 x1, .int .u64 x2, .int .u64 x3, .int .u64 x4, .int .u64 x5] rfl rfl ?c1 ?c2 (by decide) ?c3 ?c4 ?c5 _ rfl ?_)
     case c1 => exact zdj wr _ _
     case c2 => intro u hu; simp at hu; rcases hu with rfl | rfl | rfl | rfl | rfl | rfl <;> rfl
     case c3 => unfold maxLen; omega
     case c4 => omega
     case c5 => simp; omega
     intro g5 cap5 w9 hown9 hgrow9 hat9 _
     have HN9 : Hid (RowsN w9 W.heap.size 74 6 (.slice (some ⟨g5, 0, none⟩) (i + 1) cap5) (i + 1) (bxL D)) := RowsN.app hown9 HNews.out
     have HO9 : Hid (Old W w9) := (HOv.out.alloc _).grown hgrow9 fun q hq => (World.ownsRow.lt HNv q hq).1
     clear hown9 hgrow9 hat9 HNews HNv m0 m1 m2 m3 m4 m5
     go_wp2
     go_roundw
     case rel => exact ⟨i + 1, zac i, by omega, HN9, HO9⟩
     case measure => simp [intOf]; omega
  ·have he : m = i := by omega
   subst he
   obtain ⟨b, c, e12, hbf⟩ := HN.out.boxF fun j k _ _ => by rw [HDe.out]; exact mixC_u64 _ _ _ _ _ _ _ j k
   have HF : Hid (BoxF wr b m D) := hbf
   rw [e12]
   clear e12 hbf
   go_wp2_with fail
   go_ret2
   exact ⟨HW0.out.trans HO.out, b, c, rfl, HF.out⟩
end
section
open Go Go.RowKit
def lookF : List Oper -> List Ent -> (Nat -> Value) -> Nat -> Value -> Nat -> Value
 | o :: os, e :: es, t, i, x, s => lookF os es t (i + 1) (match o.dst with | some d => bif Nat.beq d s then e.val (t i) else x | none => x) s
 | _, _, _, _, x, _ => x
def evL (ops : List Oper) (E : List Ent) (t : Nat -> Value) (L0 : List Value) : Operand -> Value
 | .tmp s => lookF ops E t 0 (L0.getD s undef) s
 | .const v => Act.eval ⟨#[], []⟩ (.const v)
 | .global g => Act.eval ⟨#[], []⟩ (.global g)
 | .func f => Act.eval ⟨#[], []⟩ (.func f)
theorem evL_func {ops : List Oper} {E : List Ent} {t : Nat -> Value} {L0 : List Value} {f : FuncId} : evL ops E t L0 (.func f) = Act.eval ⟨#[], []⟩ (.func f) := rfl
theorem zeo (s : Nat) : ∀ (os : List Oper) (es : List Ent) (t : Nat -> Value) (i : Nat) (L : List Value), (∀ k o d, k < es.length -> os[k]? = some o -> o.dst = some d -> d < L.length) -> (fill os es t i L).getD s undef = lookF os es t i (L.getD s undef) s
 | [], _, _, _, _, _ => by simp [fill, lookF]
 | _ :: _, [], _, _, _, _ => by simp [fill, lookF]
 | o :: os, e :: es, t, i, L, h => by
  unfold fill lookF
  have h0 := h 0 o
  cases hd : o.dst with
  | none => exact zeo s os es t (i + 1) L fun k o' d hk ho hd' => h (k + 1) o' d (by simp; omega) (by simpa using ho) hd'
  | some d =>
   have hdl := h0 d (by simp) rfl hd
   dsimp only
   rw [zeo s os es t (i + 1) (L.set d (e.val (t i))) fun k o' d' hk ho hd' => by
    have := h (k + 1) o' d' (by simp; omega) (by simpa using ho) hd'
    simpa using this]
   congr 1
   cases hb : Nat.beq d s with
   | true =>
    have hds : d = s := Nat.eq_of_beq_eq_true hb
    subst hds
    simp [List.getD, hdl]
   | false =>
    have hds : ¬ d = s := Nat.ne_of_beq_eq_false hb
    simp [List.getD, List.getElem?_set_ne hds]
theorem evL_eq {ops : List Oper} {E : List Ent} {L0 : List Value} (h : ∀ k o d, k < E.length -> ops[k]? = some o -> o.dst = some d -> d < L0.length) (t : Nat -> Value) : Act.eval ⟨(fill ops E t 0 L0).toArray, []⟩ = evL ops E t L0 := by
 funext x
 cases x with
 | tmp s =>
  have := zeo s ops E t 0 L0 h
  show (fill ops E t 0 L0).toArray.getD s undef = lookF ops E t 0 (L0.getD s undef) s
  rw [<- this]
  simp [Array.getD_eq_getD_getElem?]
 | const v => rfl
 | global g => rfl
 | func f => rfl
structure StepTz (P : Program) (ops : List Oper) (L0 : List Value) (E : List Ent) (R : World -> Prop) (o : Oper) (e : Ent) : Prop where
 go : ∀ (t : Nat -> Value) (wx : World), R wx -> (∀ k, needs o k = true -> okAt E k (t k) wx) ->
  match zap E o with
  | some true => PostT P E R e wx ((execOp (evL ops E t L0) o).run P wx)
  | some false => ∀ w, e.ok undef w
  | none => False
def StepsTz (P : Program) (ops : List Oper) (L0 : List Value) (E : List Ent) (R : World -> Prop) : List Oper -> List Ent -> Prop
 | o :: os, e :: es => StepTz P ops L0 E R o e /\ StepsTz P ops L0 E R os es
 | _, [] => True
 | [], _ :: _ => False
theorem StepsTz.c {P : Program} {ops : List Oper} {L0 : List Value} {E : List Ent} {R : World -> Prop} {o : Oper} {os : List Oper} {e : Ent} {es : List Ent} (h : StepTz P ops L0 E R o e) (k : StepsTz P ops L0 E R os es) : StepsTz P ops L0 E R (o :: os) (e :: es) := ⟨h, k⟩
theorem StepsTz.n {P : Program} {ops : List Oper} {L0 : List Value} {E : List Ent} {R : World -> Prop} {os : List Oper} : StepsTz P ops L0 E R os [] := by cases os <;> exact trivial
theorem StepsTz.to {P : Program} {ops : List Oper} {L0 : List Value} {E : List Ent} {R : World -> Prop} (h : ∀ t, Act.eval ⟨(fill ops E t 0 L0).toArray, []⟩ = evL ops E t L0) : ∀ (os : List Oper) (es : List Ent), StepsTz P ops L0 E R os es -> StepsT P ops L0 E R os es
 | o :: os, e :: es, hs => ⟨⟨fun t wx h1 h2 => by rw [h t]; exact hs.1.go t wx h1 h2⟩, StepsTz.to h os es hs.2⟩
 | [], [], _ => trivial
 | _ :: _, [], _ => trivial
 | [], _ :: _, hs => hs.elim
theorem zag {P : Program} {Q : Exit -> Act -> World -> Prop} {id : Nat} {ops : List Oper} {L0 : List Value} {w : World} (n : Nat) (E : List Ent) (R : World -> Prop) (hm : P.follows .mixedOrders = true) (hc : zeZ ops n L0.length = true) (hE : E.length = n) (start : R w.drew) (steps : StepsTz P ops L0 E R ops E)
  (fin : ∀ (t : Nat -> Value) (wx : World), R wx -> (∀ k, k < n -> okAt E k (t k) wx) -> wpList P ops.toArray Q (ops.drop n) ⟨(fill ops E t 0 L0).toArray, []⟩ wx) : (Code.region id ops.toArray true).wp P Q ⟨L0.toArray, []⟩ w := by
 refine zaa n E R hm hc hE start (StepsTz.to (evL_eq fun k o d hk ho hd => ?_) ops E steps) fin
 unfold zeZ at hc
 simp only [Bool.and_eq_true, decide_eq_true_eq, List.all_eq_true, List.mem_range] at hc
 have := hc.2 k (by omega)
 rw [ho] at this
 dsimp only at this
 unfold opChk at this
 rw [hd] at this
 simp only [Bool.and_eq_true, decide_eq_true_eq] at this
 exact this.1.1.2.1
section
variable {P : Program} {ops : List Oper} {L0 : List Value} {E : List Ent} {R : World -> Prop} {o : Oper} {e : Ent}
theorem stpz {v : Value} (hg : zap E o = some true := by rfl) (h : ∀ (t : Nat -> Value) (wx : World), (execOp (evL ops E t L0) o).run P wx = .ok (.value v) wx := by intro _ _; kernel_rfl) : StepTz P ops L0 E R o (.k v) := by
 refine ⟨fun t wx hR _ => ?_⟩
 rw [hg]
 dsimp only
 rw [h t wx]
 exact ⟨hR, fun _ _ h => h, rfl⟩
theorem stvz {v' v : Value} (he : v' = v) (hg : zap E o = some true := by rfl) (h : ∀ (t : Nat -> Value) (wx : World), (execOp (evL ops E t L0) o).run P wx = .ok (.value v') wx := by intro _ _; kernel_rfl) : StepTz P ops L0 E R o (.k v) := by
 subst he
 exact stpz hg h
theorem stwz {v : Value} (hg : zap E o = some true) (h : ∀ (t : Nat -> Value) (wx : World), R wx -> (execOp (evL ops E t L0) o).run P wx = .ok (.value v) wx) : StepTz P ops L0 E R o (.k v) := by
 refine ⟨fun t wx hR _ => ?_⟩
 rw [hg]
 dsimp only
 rw [h t wx hR]
 exact ⟨hR, fun _ _ h => h, rfl⟩
theorem stnz (hg : zap E o = some false := by rfl) : StepTz P ops L0 E R o (.k undef) := by
 refine ⟨fun t wx _ _ => ?_⟩
 rw [hg]
 exact fun _ => rfl
theorem stkz {f : FuncId} {args : Array Value} {v : Value} (hg : zap E o = some true) (hR : ∀ w w', R w -> Old w w' -> R w') (hx : ∀ (t : Nat -> Value) (wx : World), (execOp (evL ops E t L0) o).run P wx = .ok (.enter f args) wx)
  (h : ∀ (wx : World), R wx -> Calls P f args wx fun r w' => r = .returned v /\ Old wx w') : StepTz P ops L0 E R o (.k v) := by
 refine ⟨fun t wx hRx _ => ?_⟩
 rw [hg]
 dsimp only
 rw [hx t wx]
 exact (h wx hRx).mono fun r w' ⟨hr, ho⟩ => ⟨v, hr, ResT.old hR hRx ho rfl⟩
theorem stmz {ob : (Nat -> Value) -> Obj} {v : Nat -> Value} (hR : ∀ w w', R w -> Old w w' -> R w') (h : ∀ (t : Nat -> Value) (wx : World), R wx -> (∀ k, needs o k = true -> okAt E k (t k) wx) -> e.ok (v wx.heap.size) (wx.alloc (ob t))) (hg : zap E o = some true := by rfl) (hx : ∀ (t : Nat -> Value) (wx : World), (execOp (evL ops E t L0) o).run P wx = .ok (.value (v wx.heap.size)) (wx.alloc (ob t)) := by intro _ _; kernel_rfl) : StepTz P ops L0 E R o e := by
 refine ⟨fun t wx hRx hd => ?_⟩
 rw [hg]
 dsimp only
 rw [hx t wx]
 exact ResT.old hR hRx ((Old.refl _).alloc _) (h t wx hRx hd)
theorem run_enterz {t : Nat -> Value} {w : World} {f : FuncId} {fn : Func} {c : Code} {oas : Array Operand} {tys : Array TypeId} {dst : Option Tmp} {ty : TypeId} {pos : String} {after : Array Edge} {guard : Option (Nat × Bool)} (hf : P.funcs[f]? = some fn) (hn : (fn.name == "runtime.NumGoroutine") = false) (hb : fn.body = some c) : (execOp (evL ops E t L0) ⟨dst, .call ⟨.value (.func f), oas, tys⟩, ty, pos, after, guard⟩).run P w = .ok (.enter f (oas.map (evL ops E t L0))) w := by
 have h1 : ¬ fn.name = "runtime.NumGoroutine" := by simpa using hn
 simp [execOp, evL_func, callFunc, hf, h1, hb, go_sem]
section
variable {dst : Option Tmp} {ty : TypeId} {pos : String} {after : Array Edge} {guard : Option (Nat × Bool)} {T : TypeId} {x : Operand} {d : TypeDesc}
theorem stlz {p : Addr} {v : Value} (hu : P.underlying T = some d) (hc : ∀ wx, R wx -> wx.cell? p = some v) (hg : zap E ⟨dst, .load T x, ty, pos, after, guard⟩ = some true := by rfl) (hd : aggD d = false := by rfl) (hx : ∀ t, evL ops E t L0 x = .pointer (some p) := by intro _; kernel_rfl) : StepTz P ops L0 E R ⟨dst, .load T x, ty, pos, after, guard⟩ (.k v) := by
 refine stwz hg fun t wx hR => ?_
 have hag : (isAgg T).run P wx = .ok false wx := by
  unfold isAgg
  rw [Sem.run_bind, run_underlying hu wx]
  cases d <;> simp_all [aggD]
 simp only [execOp, hx t, Instr.loadAt, Instr.sureAddr, loadVar, Sem.run_bind, Sem.run_pure, Result.andThen_ok, hag]
 simp [hc wx hR]
theorem stsz {b : Nat} {cs : Array Value} {tb : TypeId} (hu : P.underlying T = some d) (hc : ∀ wx, R wx -> wx.heap[b]? = some (.cells cs tb (0, 0))) (hg : zap E ⟨dst, .load T x, ty, pos, after, guard⟩ = some true := by rfl) (hd : aggD d = true := by rfl) (hi : (P.info? T).map (·.size) = some cs.size := by kernel_rfl) (hx : ∀ t, evL ops E t L0 x = .pointer (some ⟨b, 0, none⟩) := by intro _; kernel_rfl) : StepTz P ops L0 E R ⟨dst, .load T x, ty, pos, after, guard⟩ (.k (.agg cs)) := by
 refine stwz hg fun t wx hR => ?_
 simp only [execOp, hx t, Instr.loadAt, Instr.sureAddr, Sem.run_bind, Sem.run_pure, Result.andThen_ok, run_loadVar_row wx b tb T cs (0, 0) d (hc wx hR) hu (by cases d <;> simp_all [aggD]) hi]
theorem stfz {b : Nat} {cs : Array Value} {tb : TypeId} {v : Value} (j : Nat) (hu : P.underlying T = some d) (hc : ∀ wx, R wx -> wx.heap[b]? = some (.cells cs tb (0, 0))) (hg : zap E ⟨dst, .load T x, ty, pos, after, guard⟩ = some true := by rfl) (hd : aggD d = false := by rfl) (hx : ∀ t, evL ops E t L0 x = .pointer (some ⟨b, j, none⟩) := by intro _; kernel_rfl) (hv : cs[j]? = some v := by rfl) : StepTz P ops L0 E R ⟨dst, .load T x, ty, pos, after, guard⟩ (.k v) :=
 stlz hu (fun wx hR => (cell_of_row _ _ j _ _ (0, 0) (hc wx hR)).trans hv) hg hd hx
end
theorem stjz {dst : Option Tmp} {ty : TypeId} {pos : String} {after : Array Edge} {guard : Option (Nat × Bool)} {T e : TypeId} {x ix : Operand} {b off n c i : Nat} (sz : Nat) (hi : i < n) (hu : P.underlying T = some (.slice e)) (hs : (P.info? e).map (·.size) = some sz := by kernel_rfl) (hg : zap E ⟨dst, .indexAddr T x ix, ty, pos, after, guard⟩ = some true := by rfl) (hx : ∀ t, evL ops E t L0 x = .slice (some ⟨b, off, none⟩) n c := by intro _; kernel_rfl) (hix : ∀ t, evL ops E t L0 ix = .int .i64 (i : Int) := by intro _; kernel_rfl) : StepTz P ops L0 E R ⟨dst, .indexAddr T x ix, ty, pos, after, guard⟩ (.k (.pointer (some ⟨b, off + i * sz, none⟩))) := by
 refine stwz hg fun t wx _ => ?_
 obtain ⟨z, h1, h2⟩ := Option.map_eq_some_iff.1 hs
 simp only [execOp, hx t, hix t]
 simp [Instr.indexAt, run_underlying hu, asIntOf, sizeOf, typeInfo, h1, h2, hi, go_sem]
theorem stiz {dst : Option Tmp} {ty : TypeId} {pos : String} {after : Array Edge} {guard : Option (Nat × Bool)} {T e : TypeId} {x ix : Operand} {b off n c i : Nat} (hi : i < n) (hu : P.underlying T = some (.slice e)) (hs : (P.info? e).map (·.size) = some 1 := by kernel_rfl) (hg : zap E ⟨dst, .indexAddr T x ix, ty, pos, after, guard⟩ = some true := by rfl) (hx : ∀ t, evL ops E t L0 x = .slice (some ⟨b, off, none⟩) n c := by intro _; kernel_rfl) (hix : ∀ t, evL ops E t L0 ix = .int .i64 (i : Int) := by intro _; kernel_rfl) : StepTz P ops L0 E R ⟨dst, .indexAddr T x ix, ty, pos, after, guard⟩ (.k (.pointer (some ⟨b, off + i, none⟩))) := by
 have h := stjz (P := P) (R := R) 1 hi hu hs hg hx hix
 rwa [Nat.mul_one] at h
theorem sti0z {dst : Option Tmp} {ty : TypeId} {pos : String} {after : Array Edge} {guard : Option (Nat × Bool)} {T e : TypeId} {x ix : Operand} {b n c i : Nat} (hi : i < n) (hu : P.underlying T = some (.slice e)) (hs : (P.info? e).map (·.size) = some 1 := by kernel_rfl) (hg : zap E ⟨dst, .indexAddr T x ix, ty, pos, after, guard⟩ = some true := by rfl) (hx : ∀ t, evL ops E t L0 x = .slice (some ⟨b, 0, none⟩) n c := by intro _; kernel_rfl) (hix : ∀ t, evL ops E t L0 ix = .int .i64 (i : Int) := by intro _; kernel_rfl) : StepTz P ops L0 E R ⟨dst, .indexAddr T x ix, ty, pos, after, guard⟩ (.k (.pointer (some ⟨b, i, none⟩))) := by
 have h := stiz (P := P) (R := R) hi hu hs hg hx hix
 rwa [Nat.zero_add] at h
theorem sajz {dst : Option Tmp} {ty : TypeId} {pos : String} {after : Array Edge} {guard : Option (Nat × Bool)} {T e : TypeId} {x ix : Operand} {b off n i : Nat} (sz : Nat) (hi : i < n) (hu : P.underlying T = some (.array n e)) (hs : (P.info? e).map (·.size) = some sz := by kernel_rfl) (hg : zap E ⟨dst, .indexAddr T x ix, ty, pos, after, guard⟩ = some true := by rfl) (hx : ∀ t, evL ops E t L0 x = .pointer (some ⟨b, off, none⟩) := by intro _; kernel_rfl) (hix : ∀ t, evL ops E t L0 ix = .int .i64 (i : Int) := by intro _; kernel_rfl) : StepTz P ops L0 E R ⟨dst, .indexAddr T x ix, ty, pos, after, guard⟩ (.k (.pointer (some ⟨b, off + i * sz, none⟩))) := by
 refine stwz hg fun t wx _ => ?_
 obtain ⟨z, h1, h2⟩ := Option.map_eq_some_iff.1 hs
 simp only [execOp, hx t, hix t]
 simp [Instr.indexAt, Instr.sureAddr, run_underlying hu, asIntOf, sizeOf, typeInfo, h1, h2, hi, go_sem]
theorem stSz {dst : Option Tmp} {ty : TypeId} {pos : String} {after : Array Edge} {guard : Option (Nat × Bool)} {T : TypeId} {x y : Operand} {p : Addr} {v : Value} {e : Ent} (h :  ∀ (t : Nat -> Value) (wx : World), R wx -> (∃ o, wx.cell? p = some o) /\ wx.frozen? p = false /\ ResT E R e wx undef (wx.setCell p v)) (h1 : v.cells = #[v] := by rfl) (h2 : v.oneCell' = true := by rfl) (hs : (P.info? T).map (·.size) = some 1 := by kernel_rfl) (hg : zap E ⟨dst, .store T x y, ty, pos, after, guard⟩ = some true := by rfl) (hx : ∀ t, evL ops E t L0 x = .pointer (some p) := by intro _; kernel_rfl) (hy : ∀ t, evL ops E t L0 y = v := by intro _; kernel_rfl) : StepTz P ops L0 E R ⟨dst, .store T x y, ty, pos, after, guard⟩ e := by
 refine ⟨fun t wx hR _ => ?_⟩
 obtain ⟨⟨o, ho⟩, hf, hres⟩ := h t wx hR
 obtain ⟨z, hz1, hz2⟩ := Option.map_eq_some_iff.1 hs
 have hadd : p.add 0 = p := by simp [Addr.add]
 have hrun : (execOp (evL ops E t L0) ⟨dst, .store T x y, ty, pos, after, guard⟩).run P wx = .ok .skip (wx.setCell p v) := by
  simp only [execOp, hx t, hy t, Instr.storeAt, Instr.sureAddr, storeVar, h1]
  simp [storeCells, sizeOf, typeInfo, hz1, hz2, hadd, run_store _ _ _ _ _ h2, ho, hf, go_sem]
 rw [hg]
 dsimp only
 rw [hrun]
 exact hres
theorem stKz {f : FuncId} {fn : Func} {c : Code} {oas : Array Operand} {tys : Array TypeId} {dst : Option Tmp} {ty : TypeId} {pos : String} {after : Array Edge} {guard : Option (Nat × Bool)} {args : Array Value} {v : Value} (hR : ∀ w w', R w -> Old w w' -> R w') (hf : P.funcs[f]? = some fn) (h : ∀ (wx : World), R wx -> Calls P f args wx fun r w' => r = .returned v /\ Old wx w') (hg : zap E ⟨dst, .call ⟨.value (.func f), oas, tys⟩, ty, pos, after, guard⟩ = some true := by rfl) (hn : (fn.name == "runtime.NumGoroutine") = false := by decide) (hb : fn.body = some c := by rfl) (hx : ∀ t, oas.map (evL ops E t L0) = args := by intro _; kernel_rfl) : StepTz P ops L0 E R ⟨dst, .call ⟨.value (.func f), oas, tys⟩, ty, pos, after, guard⟩ (.k v) :=
 stkz hg hR (fun t wx => by rw [run_enterz hf hn hb, hx t]) h
end
end
section
open Go Go.RowKit
structure ClV (W : World) (s N : Nat) (T : NI) (Bs : NN) (i k : Nat) (v u : Value) (bk : Nat -> Nat) (w : World) : Prop where
 ly : Ly W s N [] T Bs i k v u bk w
 row : w.heap[s]? = some (.cells #[v, u] 50 (0, 0))
structure Fr (s k : Nat) (v u : Value) (bk : Nat -> Nat) (b : Nat) : Prop where
 v : v.ownBlock ≠ some b
 u : u.ownBlock ≠ some b
 k : ∀ j, j < k -> bk j ≠ b
 s : s + 1 <= b
def ClY (W : World) (s N : Nat) (T : NI) (Bs : NN) (k : Nat) (w : World) : Prop := ∃ v u bk, ClV W s N T Bs k k v u bk w
section
variable {W w w' : World} {s N : Nat} {T : NI} {Bs : NN} {i k : Nat} {v u : Value} {bk : Nat -> Nat} {b : Nat} {F : NI}
theorem ClV.old' (h : ClV W s N T Bs i k v u bk w) (ho : Old w w') : ClV W s N T Bs i k v u bk w' := ⟨h.ly.old' ho, (ho.block _ h.ly.big).trans h.row⟩
theorem ClY.old' (h : ClY W s N T Bs k w) (ho : Old w w') : ClY W s N T Bs k w' := let ⟨v, u, bk, h⟩ := h; ⟨v, u, bk, h.old' ho⟩
theorem ClY.old (h : ClY W s N T Bs k w) : Old W w := let ⟨_, _, _, h⟩ := h; h.ly.old
theorem ClV.y (h : ClV W s N T Bs k k v u bk w) : ClY W s N T Bs k w := ⟨v, u, bk, h⟩
theorem ClV.fr (h : ClV W s N T Bs i k v u bk w) (hb : w.heap.size <= b) : Fr s k v u bk b := by
 refine ⟨fun he => ?_, fun he => ?_, fun j hj he => ?_, ?_⟩
 ·have := (World.ownsRow.lt h.ly.nums b he).2; omega
 ·have := (World.ownsRow.lt h.ly.own b he).2; omega
 ·have := (h.ly.full j hj).2.lt; omega
 ·have := h.ly.big; omega
theorem ClV.c0 (h : ClV W s N T Bs i k v u bk w) : w.cell? ⟨s, 0, none⟩ = some v := cell_of_row _ _ 0 _ _ (0, 0) h.row
theorem ClV.c1 (h : ClV W s N T Bs i k v u bk w) : w.cell? ⟨s, 1, none⟩ = some u := cell_of_row _ _ 1 _ _ (0, 0) h.row
theorem Ly.tgtn {m g cap : Nat} (h : Ly W s N [] T Bs i k v u bk w) (hown : w'.ownsRow (s + 1) 22 1 (.slice (some ⟨g, 0, none⟩) (i + m) cap) (i + m) ((List.range (i + m)).map (fun j => Value.int .u64 (T j)))) (hg : w.grownBy w' v.ownBlock) (hat : v.ownBlock = some g ∨ g = w.heap.size) : Ly W s N [] T Bs (i + m) k (.slice (some ⟨g, 0, none⟩) (i + m) cap) u bk w' := by
 have hu := World.ownsRow.lt h.own
 refine ⟨h.old.grown hg fun b hb => ?_, h.ws, Nat.le_trans h.big hg.size, hown, h.own.kept hg ?_, fun j hj => ⟨(h.full j hj).1, (h.full j hj).2.grown hg (h.s1 j hj)⟩, h.inj, fun j hj he => ?_, h.s2, Or.inr fun he => ?_, fun e he => absurd he (by simp)⟩
 ·have := (World.ownsRow.lt h.nums b hb).1; have := h.ws; omega
 ·rcases h.s3 with h3 | h3
  ·rw [h3]; cases hx : u.ownBlock
   ·exact Or.inl rfl
   ·exact Or.inr (by simp)
  ·exact Or.inr h3
 ·have he' : g = bk j := by simpa [Value.ownBlock] using he
  rcases hat with h1 | h1
  ·exact h.s1 j hj (by rw [h1, he'])
  ·have := (h.full j hj).2.lt; omega
 ·have he' : u.ownBlock = some g := he
  rcases hat with h1 | h1
  ·rcases h.s3 with h3 | h3
   ·rw [h3] at h1; cases h1
   ·exact h3 (by rw [he', h1])
  ·have := (hu g he').2; omega
theorem ClV.tgtn {m g cap : Nat} (h : ClV W s N T Bs i k v u bk w) (hown : w'.ownsRow (s + 1) 22 1 (.slice (some ⟨g, 0, none⟩) (i + m) cap) (i + m) ((List.range (i + m)).map (fun j => Value.int .u64 (T j)))) (hg : w.grownBy w' v.ownBlock) (hat : v.ownBlock = some g ∨ g = w.heap.size) :
  w'.cell? ⟨s, 0, none⟩ = some v /\ w'.frozen? ⟨s, 0, none⟩ = false /\ ClV W s N T Bs (i + m) k (.slice (some ⟨g, 0, none⟩) (i + m) cap) u bk (w'.setCell ⟨s, 0, none⟩ (.slice (some ⟨g, 0, none⟩) (i + m) cap)) := by
 have hr : w'.heap[s]? = some (.cells #[v, u] 50 (0, 0)) := by
  rw [hg.block s (by have := h.ly.big; omega) (fun e => by have := (World.ownsRow.lt h.ly.nums _ e.symm).1; omega)]
  exact h.row
 refine ⟨cell_of_row _ _ 0 _ _ (0, 0) hr, zab hr 0, (h.ly.tgtn hown hg hat).set 0 _, ?_⟩
 have := zaw hr 0 (.slice (some ⟨g, 0, none⟩) (i + m) cap)
 simpa using this
theorem Fr.tgt {n m g cap : Nat} (h : Fr s k v u bk b) (hg : w.grownBy w' v.ownBlock) (hat : v.ownBlock = some g ∨ g = w.heap.size) (hF : Full w b n F) : Fr s k (.slice (some ⟨g, 0, none⟩) m cap) u bk b /\ ∀ x j, Full (w'.setCell ⟨s, j, none⟩ x) b n F := by
 refine ⟨⟨fun he => ?_, h.u, h.k, h.s⟩, fun x j => (hF.grown hg h.v).other (p := ⟨s, j, none⟩) (by have := h.s; show b ≠ s; omega) _⟩
 have he' : g = b := by simpa [Value.ownBlock] using he
 rcases hat with h1 | h1
 ·exact h.v (by rw [h1, he'])
 ·have := hF.lt; omega
theorem ClV.bas {g cap : Nat} (h : ClV W s N T Bs i k v u bk w) (hf : Fr s k v u bk b) (hF : Full w b N F) (he : ∀ q, q < N -> F q = Bs k q) (hown : w'.ownsRow (s + 1) 29 1 (.slice (some ⟨g, 0, none⟩) (k + 1) cap) (k + 1) ((List.range k).map (fun j => Value.slice (some ⟨bk j, 0, none⟩) N N) ++ [.slice (some ⟨b, 0, none⟩) N N])) (hg : w.grownBy w' u.ownBlock) (hat : u.ownBlock = some g ∨ g = w.heap.size) :
  w'.cell? ⟨s, 1, none⟩ = some u /\ w'.frozen? ⟨s, 1, none⟩ = false /\ ClV W s N T Bs i (k + 1) v (.slice (some ⟨g, 0, none⟩) (k + 1) cap) (fun j => if j = k then b else bk j) (w'.setCell ⟨s, 1, none⟩ (.slice (some ⟨g, 0, none⟩) (k + 1) cap)) := by
 have hr : w'.heap[s]? = some (.cells #[v, u] 50 (0, 0)) := by
  rw [hg.block s (by have := h.ly.big; omega) (fun e => by have := (World.ownsRow.lt h.ly.own _ e.symm).1; omega)]
  exact h.row
 refine ⟨cell_of_row _ _ 1 _ _ (0, 0) hr, zab hr 1, (h.ly.bas hf.s (hF.congr he) hf.v hf.u hf.k (fun e he => absurd he (by simp)) hown hg hat).set 1 _, ?_⟩
 have := zaw hr 1 (.slice (some ⟨g, 0, none⟩) (k + 1) cap)
 simpa using this
theorem Ly.bas2 {b1 b2 g cap : Nat} (h : Ly W s N [] T Bs i k v u bk w) (h1 : Fr s k v u bk b1) (h2 : Fr s k v u bk b2) (hne : b1 ≠ b2) (hF1 : Full w b1 N (Bs k)) (hF2 : Full w b2 N (Bs (k + 1))) (hown : w'.ownsRow (s + 1) 29 1 (.slice (some ⟨g, 0, none⟩) (k + 2) cap) (k + 2) ((List.range k).map (fun j => Value.slice (some ⟨bk j, 0, none⟩) N N) ++ [.slice (some ⟨b1, 0, none⟩) N N, .slice (some ⟨b2, 0, none⟩) N N])) (hg : w.grownBy w' u.ownBlock) (hat : u.ownBlock = some g ∨ g = w.heap.size) :
  Ly W s N [] T Bs i (k + 2) v (.slice (some ⟨g, 0, none⟩) (k + 2) cap) (fun j => if j = k then b1 else if j = k + 1 then b2 else bk j) w' := by
 have hv := World.ownsRow.lt h.nums
 have hcase : ∀ j, j < k + 2 -> (j = k /\ (if j = k then b1 else if j = k + 1 then b2 else bk j) = b1) ∨ (j = k + 1 /\ (if j = k then b1 else if j = k + 1 then b2 else bk j) = b2) ∨ (j < k /\ (if j = k then b1 else if j = k + 1 then b2 else bk j) = bk j) := fun j hj => by
  by_cases e1 : j = k
  ·exact Or.inl ⟨e1, if_pos e1⟩
  ·by_cases e2 : j = k + 1
   ·exact Or.inr (Or.inl ⟨e2, by rw [if_neg e1, if_pos e2]⟩)
   ·exact Or.inr (Or.inr ⟨by omega, by rw [if_neg e1, if_neg e2]⟩)
 refine ⟨h.old.grown hg fun c hc => ?_, h.ws, Nat.le_trans h.big hg.size, World.ownsRow.kept h.nums hg ?_, ?_, fun j hj => ?_, fun p q hp hq he => ?_, fun j hj he => ?_, fun j hj he => ?_, ?_, fun e he => absurd he (by simp)⟩
 ·have := (World.ownsRow.lt h.own c hc).1; have := h.ws; omega
 ·rcases h.s3 with h3 | h3
  ·exact Or.inl h3
  ·exact Or.inr (Ne.symm h3)
 ·have e : (List.range (k + 2)).map (fun j => Value.slice (some ⟨if j = k then b1 else if j = k + 1 then b2 else bk j, 0, none⟩) N N) = (List.range k).map (fun j => Value.slice (some ⟨bk j, 0, none⟩) N N) ++ [.slice (some ⟨b1, 0, none⟩) N N, .slice (some ⟨b2, 0, none⟩) N N] := by
   rw [show k + 2 = (k + 1) + 1 from rfl, List.range_succ, List.map_append, List.range_succ, List.map_append, List.append_assoc]
   congr 1
   ·refine List.map_congr_left fun j hj => ?_
    have := List.mem_range.1 hj
    rw [if_neg (by omega), if_neg (by omega)]
   ·simp
  rw [e]
  exact hown
 ·rcases hcase j hj with ⟨rfl, e⟩ | ⟨rfl, e⟩ | ⟨hj', e⟩
  ·rw [e]; exact ⟨h1.s, hF1.grown hg h1.u⟩
  ·rw [e]; exact ⟨h2.s, hF2.grown hg h2.u⟩
  ·rw [e]; exact ⟨(h.full j hj').1, (h.full j hj').2.grown hg (h.s2 j hj')⟩
 ·rcases hcase p hp with ⟨rfl, e⟩ | ⟨rfl, e⟩ | ⟨hp', e⟩ <;> rcases hcase q hq with ⟨h4, e'⟩ | ⟨h4, e'⟩ | ⟨hq', e'⟩ <;> rw [e, e'] at he
  ·exact h4.symm
  ·exact absurd he hne
  ·exact absurd he.symm (h1.k q hq')
  ·exact absurd he.symm hne
  ·exact h4.symm
  ·exact absurd he.symm (h2.k q hq')
  ·exact absurd he (h1.k p hp')
  ·exact absurd he (h2.k p hp')
  ·exact h.inj p q hp' hq' he
 ·rcases hcase j hj with ⟨rfl, e⟩ | ⟨rfl, e⟩ | ⟨hj', e⟩ <;> rw [e] at he
  ·exact h1.v he
  ·exact h2.v he
  ·exact h.s1 j hj' he
 ·have he' : g = if j = k then b1 else if j = k + 1 then b2 else bk j := by simpa [Value.ownBlock] using he
  rcases hcase j hj with ⟨rfl, e⟩ | ⟨rfl, e⟩ | ⟨hj', e⟩ <;> rw [e] at he' <;> rcases hat with h5 | h5
  ·exact h1.u (by rw [h5, he'])
  ·have := hF1.lt; omega
  ·exact h2.u (by rw [h5, he'])
  ·have := hF2.lt; omega
  ·exact h.s2 j hj' (by rw [h5, he'])
  ·have := (h.full j hj').2.lt; omega
 ·cases hvo : v.ownBlock with
  | none => exact Or.inl rfl
  | some c =>
   refine Or.inr fun he => ?_
   have he' : g = c := by simpa [Value.ownBlock] using he
   have hc := (hv c hvo).2
   rcases hat with h5 | h5
   ·rcases h.s3 with h3 | h3
    ·rw [h3] at hvo; cases hvo
    ·exact h3 (by rw [h5, hvo, he'])
   ·omega
theorem ClV.bas2 {b1 b2 g cap : Nat} {F1 F2 : NI} (h : ClV W s N T Bs i k v u bk w) (h1 : Fr s k v u bk b1) (h2 : Fr s k v u bk b2) (hne : b1 ≠ b2) (hF1 : Full w b1 N F1) (hF2 : Full w b2 N F2) (he1 : ∀ q, q < N -> F1 q = Bs k q) (he2 : ∀ q, q < N -> F2 q = Bs (k + 1) q) (hown : w'.ownsRow (s + 1) 29 1 (.slice (some ⟨g, 0, none⟩) (k + 2) cap) (k + 2) ((List.range k).map (fun j => Value.slice (some ⟨bk j, 0, none⟩) N N) ++ [.slice (some ⟨b1, 0, none⟩) N N, .slice (some ⟨b2, 0, none⟩) N N])) (hg : w.grownBy w' u.ownBlock) (hat : u.ownBlock = some g ∨ g = w.heap.size) :
  w'.cell? ⟨s, 1, none⟩ = some u /\ w'.frozen? ⟨s, 1, none⟩ = false /\ ClV W s N T Bs i (k + 2) v (.slice (some ⟨g, 0, none⟩) (k + 2) cap) (fun j => if j = k then b1 else if j = k + 1 then b2 else bk j) (w'.setCell ⟨s, 1, none⟩ (.slice (some ⟨g, 0, none⟩) (k + 2) cap)) := by
 have hr : w'.heap[s]? = some (.cells #[v, u] 50 (0, 0)) := by
  rw [hg.block s (by have := h.ly.big; omega) (fun e => by have := (World.ownsRow.lt h.ly.own _ e.symm).1; omega)]
  exact h.row
 refine ⟨cell_of_row _ _ 1 _ _ (0, 0) hr, zab hr 1, (h.ly.bas2 h1 h2 hne (hF1.congr he1) (hF2.congr he2) hown hg hat).set 1 _, ?_⟩
 have := zaw hr 1 (.slice (some ⟨g, 0, none⟩) (k + 2) cap)
 simpa using this
theorem ClY.new (hs : W.heap.size <= s) (ho : Old W w) (hr : w.heap[s]? = some (.cells #[.slice none 0 0, .slice none 0 0] 50 (0, 0))) : ClY W s N T Bs 0 w :=
 ⟨.slice none 0 0, .slice none 0 0, fun _ => 0, ⟨ho, hs, by have := zam hr; omega, zaT _ _ _, World.ownsRow_nil _ _ _ _, fun j hj => by omega, fun i j hi => by omega, fun j hj => by omega, fun j hj => by omega, Or.inl rfl, fun e he => absurd he (by simp)⟩, hr⟩
theorem ClY.claim (h : ClY W s N T Bs k w) (hN : N <= 9223372036854775807) : ∃ v u, w.heap[s]? = some (.cells #[v, u] 50 (0, 0)) /\ Nums w (s + 1) v k T /\ Rws w (s + 1) u k (fun _ => N) Bs :=
 let ⟨v, u, bk, h⟩ := h; ⟨v, u, h.row, h.ly.nums, fun j => some ⟨bk j, 0, none⟩, fun _ => N, h.ly.own, fun j hj => (h.ly.full j hj).2.nums (h.ly.full j hj).1 hN⟩
def Row1 (w0 : World) (b N p : Nat) (w : World) : Prop := Old w0 w /\ ∃ c, Full w b N (fun r => if r = p then c else 1)
theorem Row1.old {w0 : World} {b N p : Nat} (w w' : World) (h : Row1 w0 b N p w) (ho : Old w w') : Row1 w0 b N p w' := ⟨h.1.trans ho, let ⟨c, h⟩ := h.2; ⟨c, h.old ho⟩⟩
theorem Row1.of {w0 : World} {p : Nat} (ho : Old w0 w) (h : Full w b N (fun _ => 1)) : Row1 w0 b N p w := ⟨ho, 1, h.congr fun r _ => by simp⟩
def zcG (b N p : Nat) (x : Int) : Ent := .u (fun _ w => Full w b N (fun r => if r = p then x else 1)) fun _ _ _ h ho => h.old ho
theorem row_stS {w0 : World} {E : List Ent} {j p : Nat} {x : Int} (hk : zdA E j = true) (hE : E[j]? = some (zcG b N p x)) (hp : p < N) (hb : w0.heap.size <= b) (wx : World) (h : Row1 w0 b N p wx) :
  (∃ o, wx.cell? ⟨b, p, none⟩ = some o) /\ wx.frozen? ⟨b, p, none⟩ = false /\ ResT E (Row1 w0 b N p) (zcG b N p x) wx undef (wx.setCell ⟨b, p, none⟩ (.int .u64 x)) := by
 obtain ⟨ho, c, hF⟩ := h
 have hn : Full (wx.setCell ⟨b, p, none⟩ (.int .u64 x)) b N (fun r => if r = p then x else 1) := (hF.set p x).congr fun r _ => by
  by_cases h1 : r = p <;> simp [h1]
 exact ⟨⟨_, hF.cell p hp⟩, hF.free p, zdo hk hE ⟨ho.setCell (p := ⟨b, p, none⟩) hb _, x, hn⟩ fun _ => hn⟩
theorem zcx {p q : Nat} {x z : Int} (hF : Full w b N (fun r => if r = p then x else 1)) (hpq : p ≠ q) : Full (w.setCell ⟨b, q, none⟩ (.int .u64 z)) b N (row28 p x q z) := (hF.set q z).congr fun r _ => by
 unfold row28
 by_cases h1 : r = q
 ·subst h1; simp [Ne.symm hpq]
 ·simp [h1]
end
end
section
open Go.RowKit
theorem zb8 (x y Q : Int) (hx : U64 x) (hy : U64 y) (w : World) : Calls prog 70 #[.int .u64 x, .int .u64 y, .int .u64 Q] w (Ret w (.int .u64 (mulI x y Q))) := (zbh x y Q w hx.1 hx.2 hy.1 hy.2).mono fun r w' ⟨h, k⟩ => ⟨h, (Old.refl _).draws k⟩
theorem sradd_any (x y Q : Int) (hx : U64 x) (hy : U64 y) (w : World) : Calls prog 77 #[.int .u64 x, .int .u64 y, .int .u64 Q] w (Ret w (.int .u64 (addI x y Q))) := (radd_any x y Q w hx.1 hx.2 hy.1 hy.2).mono fun r w' ⟨h, k⟩ => ⟨h, (Old.refl _).draws k⟩
theorem srsub_any (x y Q : Int) (hx : U64 x) (hy : U64 y) (w : World) : Calls prog 78 #[.int .u64 x, .int .u64 y, .int .u64 Q] w (Ret w (.int .u64 (subI x y Q))) := (rsub_any x y Q w hx.1 hx.2 hy.1 hy.2).mono fun r w' ⟨h, k⟩ => ⟨h, (Old.refl _).draws k⟩
theorem srpow_any (x y Q : Int) (hx : U64 x) (hy : U64 y) (w : World) : Calls prog 105 #[.int .u64 x, .int .u64 y, .int .u64 Q] w (Ret w (.int .u64 (powI x y Q))) := (zct x y Q w hx.1 hx.2 hy.1 hy.2).mono fun r w' ⟨h, k⟩ => ⟨h, (Old.refl _).draws k⟩
theorem zch (P Q G H : Int) (a : OA) (n cap : Nat) (x e : Int) (h4 : Four P Q G H) (hx : U64 x) (he : U64 e) (w : World) : Calls prog 68 #[gv P Q G H a n cap, .int .u64 x, .int .u64 e] w (Ret w (.int .u64 (expI P Q x e))) := zdx P Q G H x e a n cap w h4.q1 hx.1 hx.2 he.1 he.2
theorem wrapu (x : Int) (h : 0 <= x /\ x <= 1000) : IntKind.u64.wrap x = x := by rw [IntKind.wrap_u64]; omega
theorem zeg (P Q G H : Int) (a : OA) (n cap : Nat) (x j : Int) (w : World) (hx : U64 x) (hj : 0 <= j /\ j <= 1000) :
  Calls prog 62 #[gv P Q G H a n cap, .int .u64 x, .int .i64 j] w (Ret w (.int .u64 (powI x j Q))) := by
 have HZ := lain1 w (gc P Q G H a n cap) 25
 have HG0 := fun w' ho => (HZ.then (W' := w') ho).row 0 (by simp)
 have HW0 : Hid (Old w (w.alloc (.cells (gc P Q G H a n cap) 25))) := HZ.old
 clear HZ
 go_enter func62, ntmps62
 go_upto_region 1 with fail
 generalize w.alloc (.cells (gc P Q G H a n cap) 25) = W at *
 have HG : Hid (∀ wx, Old W wx -> wx.heap[w.heap.size]? = some (.cells (gc P Q G H a n cap) 25 (0, 0))) := HG0
 clear HG0
 generalize w.heap.size = gb at *
 have g1 : W.cell? ⟨gb, 1, none⟩ = some (.int .u64 Q) := cell_of_row _ _ 1 _ _ (0, 0) (HG.out _ (Old.refl _))
 have e1 := wrapu j hj
 go_wp2_with (go_at_call 105; refine (srpow_any x j Q hx ⟨by omega, by omega⟩ _).mono ?_; rintro e w1 ⟨rfl, o1⟩)
 go_ret
 exact ⟨rfl, HW0.out.trans o1⟩
theorem rbig8_any (P Q G H : Int) (a : OA) (n cap : Nat) (ba : OA) (na ca : Nat) (X : Int) (bb : OA) (nb cb : Nat) (Y Z : Int) (bp : OA) (np cp : Nat) (A B : NI) (i : Nat) (w : World) (h4 : Four P Q G H) (ha : i < na) (hb : i < nb) (hY : U64 Y) (hZ : U64 Z) (hA : FacsIn w ba na A) (hB : FacsIn w bb nb B) :
  Calls prog 67 #[gv P Q G H a n cap, tk ba na ca X bb nb cb Y Z bp np cp, .int .i64 (i : Int)] w (Ret w (.int .u64 (bigI P Q G (A i) (B i) Y Z))) := by
 have HA : Hid (FacsIn w ba na A) := hA
 have HB : Hid (FacsIn w bb nb B) := hB
 have HAu : Hid (U64 (A i)) := hA.u64 i ha
 have HBu : Hid (U64 (B i)) := hB.u64 i hb
 clear hA hB
 have HZ := lain2 w (gc P Q G H a n cap) (tkc ba na ca X bb nb cb Y Z bp np cp) 25 41
 have HG0 := fun w' ho => (HZ.then (W' := w') ho).row 0 (by simp)
 have HT0 := fun w' ho => (HZ.then (W' := w') ho).row 1 (by simp)
 have HW0 : Hid (Old w ((w.alloc (.cells (gc P Q G H a n cap) 25)).alloc (.cells (tkc ba na ca X bb nb cb Y Z bp np cp) 41))) := HZ.old
 clear HZ
 go_enter func67, ntmps67
 go_upto_region 1 with fail
 generalize ((w.alloc (.cells (gc P Q G H a n cap) 25)).alloc (.cells (tkc ba na ca X bb nb cb Y Z bp np cp) 41)) = W at *
 have HG : Hid (∀ wx, Old W wx -> wx.heap[w.heap.size]? = some (.cells (gc P Q G H a n cap) 25 (0, 0))) := HG0
 have HT : Hid (∀ wx, Old W wx -> wx.heap[w.heap.size + 1]? = some (.cells (tkc ba na ca X bb nb cb Y Z bp np cp) 41 (0, 0))) := HT0
 clear HG0 HT0
 generalize w.heap.size = gb at *
 rcases HA.out with h0 | ⟨bx, ox, hqx, _, hrx⟩
 ·omega
 rcases HB.out with h0 | ⟨by_, oy, hqy, _, hry⟩
 ·omega
 have HC : Hid (∀ wx, Old W wx -> wx.cell? ⟨bx, ox + i, none⟩ = some (.int .u64 (A i))) := fun wx hx => (HW0.out.trans hx).cellOf (hrx i ha).1
 have HD : Hid (∀ wx, Old W wx -> wx.cell? ⟨by_, oy + i, none⟩ = some (.int .u64 (B i))) := fun wx hx => (HW0.out.trans hx).cellOf (hry i hb).1
 clear hrx hry HA HB
 subst hqx
 subst hqy
 generalize A i = x at *
 generalize B i = z at *
 refine zaa 18 [.k (gv P Q G H a n cap), .k (.pointer (some ⟨gb + 1, 0, none⟩)), .k (.slice (some ⟨bx, ox, none⟩) na ca), .k (.int .i64 (i : Int)), .k (.pointer (some ⟨bx, ox + i, none⟩)), .k (.int .u64 x), .k (.pointer (some ⟨gb + 1, 3, none⟩)), .k (.int .u64 Y), .k (.int .u64 (expI P Q x Y)), .k (.pointer (some ⟨gb + 1, 2, none⟩)), .k (.slice (some ⟨by_, oy, none⟩) nb cb), .k (.int .i64 (i : Int)), .k (.pointer (some ⟨by_, oy + i, none⟩)), .k (.int .u64 z), .k (.pointer (some ⟨gb, 0, none⟩)), .k (.int .u64 P), .k (.int .u64 (mulI (expI P Q x Y) z P)), .k (.int .u64 (mulI (expI P Q x Y) z P))] (Old W) (by kernel_rfl) (by kernel_rfl) rfl ((Old.refl _).drew) ?st ?_
 case st =>
  refine .c (sts underlying25 HG.out) <| .c stp <| .c (stf 0 underlying29 HT.out) <| .c stp <| .c (sti (n := na) (c := ca) ha underlying29) <| .c (stl underlying22 HC.out) <| .c stp <| .c (stf 3 underlying22 HT.out) <| .c (stK old_R func68 (fun wx _ => zch P Q G H a n cap x Y h4 HAu.out hY wx)) <| .c stp <| .c (stf 2 underlying29 HT.out) <| .c stp <| .c (sti (n := nb) (c := cb) hb underlying29) <| .c (stl underlying22 HD.out) <| .c stp <| .c (stf 0 underlying22 HG.out) <| .c (stK old_R func70 (fun wx _ => zb8 _ _ P (zaC _ _ _ _) HBu.out wx)) <| .c stp .n
 intro t wx hR hk
 simp only [fill, Ent.val, List.set_cons_zero, List.set_cons_succ, List.drop_succ_cons, List.drop_zero, List.drop_nil]
 go_upto_region 2 with fail
 have HR : Hid (Old W wx) := hR
 clear hR hk
 refine zaa 10 [.k (gv P Q G H a n cap), .k (.int .u64 (mulI (expI P Q x Y) z P)), .k (gv P Q G H a n cap), .k (.pointer (some ⟨gb, 2, none⟩)), .k (.int .u64 G), .k (.pointer (some ⟨gb + 1, 4, none⟩)), .k (.int .u64 Z), .k (.int .u64 (expI P Q G Z)), .k (.int .u64 (bigI P Q G x z Y Z)), .k (.int .u64 (bigI P Q G x z Y Z))] (Old wx) (by kernel_rfl) (by kernel_rfl) rfl ((Old.refl _).drew) ?st ?_
 case st =>
  refine .c (sts underlying25 (fun wy hy => HG.out wy (HR.out.trans hy))) <| .c stp <| .c (sts underlying25 (fun wy hy => HG.out wy (HR.out.trans hy))) <| .c stp <| .c (stf 2 underlying22 (fun wy hy => HG.out wy (HR.out.trans hy))) <| .c stp <| .c (stf 4 underlying22 (fun wy hy => HT.out wy (HR.out.trans hy))) <| .c (stK old_R func68 (fun wy _ => zch P Q G H a n cap G Z h4 ⟨h4.g0, h4.g1⟩ hZ wy)) <| .c (stK old_R func86 (fun wy _ => rover_any P Q G H a n cap _ _ wy (za7 _ _ _) (zaC _ _ _ _))) <| .c stp .n
 intro t wz hR2 hk2
 simp only [fill, Ent.val, List.set_cons_zero, List.set_cons_succ, List.drop_succ_cons, List.drop_zero, List.drop_nil]
 go_wp2_with fail
 go_ret
 exact ⟨rfl, (HW0.out.trans HR.out).trans hR2⟩
theorem rproduct8_any (P Q G H : Int) (a : OA) (n cap : Nat) (m : Nat) (X Y Z : Int) (w : World) (hm : m <= 100) (hX : U64 X) (hY : U64 Y) (hZ : U64 Z) :
  Calls prog 87 #[gv P Q G H a n cap, .int .i64 (m : Int), .int .u64 X, .int .u64 Y, .int .u64 Z] w (Ret w (.int .u64 (prodI Q (kF Q X Y Z) m))) := by
 have HZ := lain1 w (gc P Q G H a n cap) 25
 have HG0 := fun w' ho => (HZ.then (W' := w') ho).row 0 (by simp)
 have HW0 : Hid (Old w (w.alloc (.cells (gc P Q G H a n cap) 25))) := HZ.old
 clear HZ
 go_enter func87, ntmps87
 go_upto_region 1 with fail
 generalize w.alloc (.cells (gc P Q G H a n cap) 25) = W at *
 have HG : Hid (∀ wx, Old W wx -> wx.heap[w.heap.size]? = some (.cells (gc P Q G H a n cap) 25 (0, 0))) := HG0
 clear HG0
 generalize w.heap.size = gb at *
 go_upto_region 3 with fail
 go_loopw [11, 12] (fun v iv wx => ∃ i : Nat, iv = .int .i64 ((i + 1 : Nat) : Int) /\ i <= m /\ v = .int .u64 (prodI Q (kF Q X Y Z) i) /\ Hid (Old W wx)) (fun _ iv _ => m + 1 - (intOf iv).toNat)
 case atStart => exact ⟨0, rfl, by omega, rfl, Old.refl _⟩
 case round =>
  obtain ⟨i, rfl, hi, rfl, HO⟩ := hrel
  by_cases hlt : i < m
  ·have hlt' : i + 1 <= m := hlt
   have HGr : Hid (∀ wx, Old wr wx -> wx.heap[gb]? = some (.cells (gc P Q G H a n cap) 25 (0, 0))) := fun wx hx => HG.out _ (HO.out.trans hx)
   have HPu : Hid (U64 (prodI Q (kF Q X Y Z) i)) := zaQ _ _ _
   have HJu : Hid (U64 ((i + 1 : Nat) : Int)) := ⟨by omega, by omega⟩
   have HJs : Hid (0 <= ((i + 1 : Nat) : Int) /\ ((i + 1 : Nat) : Int) <= 1000) := ⟨by omega, by omega⟩
   go_upto_region 5 with fail
   refine zaa 14 [.k (.int .u64 Y), .k (.int .i64 ((i + 1 : Nat) : Int)), .k (.int .u64 ((i + 1 : Nat) : Int)), .k (.pointer (some ⟨gb, 1, none⟩)), .k (.int .u64 Q), .k (.int .u64 (mulI Y ((i + 1 : Nat) : Int) Q)), .k (gv P Q G H a n cap), .k (.int .u64 X), .k (.int .i64 ((i + 1 : Nat) : Int)), .k (.int .u64 (powI X ((i + 1 : Nat) : Int) Q)), .k (.pointer (some ⟨gb, 1, none⟩)), .k (.int .u64 Q), .k (.int .u64 (addI (mulI Y ((i + 1 : Nat) : Int) Q) (powI X ((i + 1 : Nat) : Int) Q) Q)), .k (.int .u64 (addI (mulI Y ((i + 1 : Nat) : Int) Q) (powI X ((i + 1 : Nat) : Int) Q) Q))] (Old wr) (by kernel_rfl) (by kernel_rfl) rfl ((Old.refl _).drew) ?st ?_
   case st =>
    refine .c stp <| .c stp <| .c (stv (int_u64 (i + 1) (by omega))) <| .c stp <| .c (stf 1 underlying22 HGr.out) <| .c (stK old_R func70 (fun wx _ => zb8 Y _ Q hY HJu.out wx)) <| .c (sts underlying25 HGr.out) <| .c stp <| .c stp <| .c (stK old_R func62 (fun wx _ => zeg P Q G H a n cap X _ wx hX HJs.out)) <| .c stp <| .c (stf 1 underlying22 HGr.out) <| .c (stK old_R func77 (fun wx _ => sradd_any _ _ Q (za7 _ _ _) (zbR _ _ _) wx)) <| .c stp .n
   intro t wx hR hk
   simp only [fill, Ent.val, List.set_cons_zero, List.set_cons_succ, List.drop_succ_cons, List.drop_zero, List.drop_nil]
   go_upto_region 6 with fail
   have HR : Hid (Old W wx) := HO.out.trans hR
   have HGx : Hid (∀ wy, Old wx wy -> wy.heap[gb]? = some (.cells (gc P Q G H a n cap) 25 (0, 0))) := fun wy hx => HG.out _ (HR.out.trans hx)
   clear hR hk HGr HO
   refine zaa 9 [.k (.int .u64 (prodI Q (kF Q X Y Z) i)), .k (.int .u64 (addI (mulI Y ((i + 1 : Nat) : Int) Q) (powI X ((i + 1 : Nat) : Int) Q) Q)), .k (.int .u64 Z), .k (.pointer (some ⟨gb, 1, none⟩)), .k (.int .u64 Q), .k (.int .u64 (kF Q X Y Z i)), .k (.pointer (some ⟨gb, 1, none⟩)), .k (.int .u64 Q), .k (.int .u64 (prodI Q (kF Q X Y Z) (i + 1)))] (Old wx) (by kernel_rfl) (by kernel_rfl) rfl ((Old.refl _).drew) ?st ?_
   case st =>
    refine .c stp <| .c stp <| .c stp <| .c stp <| .c (stf 1 underlying22 HGx.out) <| .c (stK old_R func78 (fun wy _ => srsub_any _ Z Q (zbo _ _ _) hZ wy)) <| .c stp <| .c (stf 1 underlying22 HGx.out) <| .c (stK old_R func70 (fun wy _ => zb8 _ _ Q HPu.out (zd4 _ _ _) wy)) .n
   intro t wz hR2 hk2
   simp only [fill, Ent.val, List.set_cons_zero, List.set_cons_succ, List.drop_succ_cons, List.drop_zero, List.drop_nil]
   have HR2 : Hid (Old W wz) := HR.out.trans hR2
   clear hR2 hk2 HGx HR
   go_wp2_with fail
   go_roundw
   case rel => exact ⟨i + 1, zac _, by omega, rfl, HR2⟩
   case measure => simp [intOf]; omega
  ·have he : m = i := by omega
   subst he
   go_wp2_with fail
   go_ret
   exact ⟨rfl, HW0.out.trans HO.out⟩
end
section
open Go.RowKit
theorem rrow8_any (n : Nat) (w : World) (hn : n <= 8) :
  Calls prog 85 #[.int .i64 (n : Int)] w (GivF w (7 * n + 3) (fun _ => 1)) := by
 obtain ⟨N, hN⟩ : ∃ N, N = 7 * n + 3 := ⟨_, rfl⟩
 rw [<- hN]
 have hN8 : N <= 80 := by omega
 have k1 : IntKind.i64.wrap (7 * (n : Int)) = 7 * (n : Int) := by rw [IntKind.wrap_i64]; omega
 have k2 : IntKind.i64.wrap (7 * (n : Int) + 3) = (N : Int) := by rw [IntKind.wrap_i64]; omega
 have hmk := zaP N hN8
 have HFu : Hid (Full (w.alloc (.cells (madeCells #[Value.int .u64 0] N) 22)) w.heap.size N (upTo 0 fun _ => 1)) := zaB w N _
 have HW0 : Hid (Old w (w.alloc (.cells (madeCells #[Value.int .u64 0] N) 22))) := (Old.refl _).alloc _
 clear hN hn
 go_enter func85, ntmps85
 go_upto_region 2 with fail
 clear k1 k2 hmk
 generalize w.alloc (.cells (madeCells #[Value.int .u64 0] N) 22) = W1 at *
 go_upto_region 3 with fail
 go_loopw [4] (fun iv wx => ∃ i : Nat, iv = .int .i64 (i : Int) /\ i <= N /\ Hid (Full wx w.heap.size N (upTo i fun _ => 1)) /\ Hid (Old w wx)) (fun iv _ => N - (intOf iv).toNat)
 case atStart => exact ⟨0, rfl, Nat.zero_le _, HFu, HW0⟩
 case round =>
  obtain ⟨i, rfl, hi1, HN, HO⟩ := hrel
  by_cases hlt : i < N
  ·have HG : Hid (Full (wr.setCell ⟨w.heap.size, i, none⟩ (.int .u64 1)) w.heap.size N (upTo (i + 1) fun _ => 1)) := HN.out.next
   have HG2 : Hid (Old w (wr.setCell ⟨w.heap.size, i, none⟩ (.int .u64 1))) := HO.out.setCell (p := ⟨w.heap.size, i, none⟩) (Nat.le_refl _) _
   have q0 := HN.out.cell i hlt
   have f0 := HN.out.free i
   go_wp2_with fail
   go_roundw
   case rel => exact ⟨i + 1, zac i, by omega, HG, HG2⟩
   case measure => simp [intOf]; omega
  ·have he : N = i := by omega
   subst he
   have HD : Hid (Full wr w.heap.size N fun _ => 1) := HN.out.done
   go_wp2_with fail
   go_ret
   exact ⟨HO.out, w.heap.size, Nat.le_refl _, rfl, HD.out⟩
theorem zaL (P Q G H : Int) (a : OA) (n cap : Nat) (b : OA) (m c : Nat) (A : NI) (w : World) (h4 : Four P Q G H) (mm : m <= 9223372036854775807) (h : FacsIn w b m A) :
  Calls prog 84 #[gv P Q G H a n cap, .slice b m c] w (Ret w (.bool (elB P Q m A))) := by
 have HX : Hid (FacsIn w b m A) := h
 have HI : Hid (∀ x r wx, U64 x -> inI P Q x = r -> Calls prog 55 #[gv P Q G H a n cap, .int .u64 x] wx (Ret wx (.bool r))) := fun x r wx hx hr => by
  have := zcb P Q G H x a n cap wx h4.q0 h4.q1 hx.2
  rw [hr] at this
  exact this
 clear h h4
 have HZ := lain1 w (gc P Q G H a n cap) 25
 have HG0 := fun w' ho => (HZ.then (W' := w') ho).row 0 (by simp)
 have HW0 : Hid (Old w (w.alloc (.cells (gc P Q G H a n cap) 25))) := HZ.old
 clear HZ
 go_enter func84, ntmps84
 go_upto_region 1 with fail
 generalize w.alloc (.cells (gc P Q G H a n cap) 25) = W at *
 have HG : Hid (∀ wx, Old W wx -> wx.heap[w.heap.size]? = some (.cells (gc P Q G H a n cap) 25 (0, 0))) := HG0
 clear HG0
 generalize w.heap.size = gb at *
 go_upto_region 2 with fail
 go_loopw [5] (fun iv wx => ∃ i : Nat, iv = .int .i64 (i : Int) /\ i <= m /\ Hid (Old W wx) /\ Hid (∀ j, j < i -> inI P Q (A j) = true)) (fun iv _ => m - (intOf iv).toNat)
 case atStart => exact ⟨0, rfl, Nat.zero_le _, Old.refl _, fun j hj => by omega⟩
 case round =>
  obtain ⟨i, rfl, hi, HO, HJ⟩ := hrel
  by_cases hlt : i < m
  ·rcases HX.out with h0 | ⟨bx, ox, hqx, _, hrx⟩
   ·omega
   have HC : Hid (∀ wx, Old wr wx -> wx.cell? ⟨bx, ox + i, none⟩ = some (.int .u64 (A i))) := fun wx hx => ((HW0.out.trans HO.out).trans hx).cellOf (hrx i hlt).1
   have HAu : Hid (U64 (A i)) := (hrx i hlt).2
   have HGr : Hid (∀ wx, Old wr wx -> wx.heap[gb]? = some (.cells (gc P Q G H a n cap) 25 (0, 0))) := fun wx hx => HG.out _ (HO.out.trans hx)
   clear hrx
   subst hqx
   cases hu : inI P Q (A i) with
   | false =>
    have HIu : Hid (inI P Q (A i) = false) := hu
    have HN : Hid (elB P Q m A = false) := no_of fun hc => by have := zaW.1 hc i hlt; rw [hu] at this; cases this
    clear hu
    go_upto_region 4 with fail
    refine zaa 6 [.k (gv P Q G H a n cap), .k (.slice (some ⟨bx, ox, none⟩) m c), .k (.int .i64 (i : Int)), .k (.pointer (some ⟨bx, ox + i, none⟩)), .k (.int .u64 (A i)), .k (.bool false)] (Old wr) (by kernel_rfl) (by kernel_rfl) rfl ((Old.refl _).drew) ?st ?_
    case st =>
     refine .c (sts underlying25 HGr.out) <| .c stp <| .c stp <| .c (sti (n := m) (c := c) hlt underlying29) <| .c (stl underlying22 HC.out) <| .c (stK old_R func55 (fun wy _ => HI.out _ _ wy HAu.out HIu.out)) .n
    intro t wx hR hk
    simp only [fill, Ent.val, List.set_cons_zero, List.set_cons_succ, List.drop_succ_cons, List.drop_zero, List.drop_nil]
    go_wp2_with fail
    go_ret
    exact ⟨zad HN.out.symm, (HW0.out.trans HO.out).trans hR⟩
   | true =>
    have HIu : Hid (inI P Q (A i) = true) := hu
    have HK : Hid (∀ j, j < i + 1 -> inI P Q (A j) = true) := fun j hj => by
     by_cases he : j = i
     ·rw [he]; exact hu
     ·exact HJ.out j (by omega)
    clear hu
    go_upto_region 4 with fail
    refine zaa 6 [.k (gv P Q G H a n cap), .k (.slice (some ⟨bx, ox, none⟩) m c), .k (.int .i64 (i : Int)), .k (.pointer (some ⟨bx, ox + i, none⟩)), .k (.int .u64 (A i)), .k (.bool true)] (Old wr) (by kernel_rfl) (by kernel_rfl) rfl ((Old.refl _).drew) ?st ?_
    case st =>
     refine .c (sts underlying25 HGr.out) <| .c stp <| .c stp <| .c (sti (n := m) (c := c) hlt underlying29) <| .c (stl underlying22 HC.out) <| .c (stK old_R func55 (fun wy _ => HI.out _ _ wy HAu.out HIu.out)) .n
    intro t wx hR hk
    simp only [fill, Ent.val, List.set_cons_zero, List.set_cons_succ, List.drop_succ_cons, List.drop_zero, List.drop_nil]
    have HR : Hid (Old W wx) := HO.out.trans hR
    clear hR hk HC HGr HO
    go_wp2_with fail
    go_roundw
    case rel => exact ⟨i + 1, zac i, by omega, HR, HK⟩
    case measure => simp [intOf]; omega
  ·have he : m = i := by omega
   subst he
   have HY : Hid (elB P Q m A = true) := zaW.2 HJ.out
   go_wp2_with fail
   go_ret
   exact ⟨zad HY.out.symm, HW0.out.trans HO.out⟩
end
section
open Go Go.RowKit
theorem zbL {w : World} {b : Nat} {cs : List Value} {t : TypeId} (h : w.heap[b]? = some (.cells cs.toArray t (0, 0))) : ∀ j u, cs[j]? = some u -> w.cell? ((⟨b, 0, none⟩ : Addr).add j) = some u := fun j u hu => by
 have hadd : (⟨b, 0, none⟩ : Addr).add j = ⟨b, j, none⟩ := by unfold Addr.add; split <;> simp_all
 rw [hadd, cell_of_row _ _ j _ _ (0, 0) h]
 simpa using hu
end
end Go.Proofs.YtlnmjbbpenhdbaaGreat
